"""Histories of wagons: returns held and put aside, gaps, and marks that show that none has fewer wrong."""

from throughlines.errors import NoProof
from throughlines.kinds import is_pair_of_lists, is_tuple, is_whole
from throughlines.nets import lines_beside, lines_joined, road_to_any, steps_to
from throughlines.papers import DAY, HOUR, JUNCTION, NUMBER, OVER, WAGON

FIGURES = 4


def lacking(net, line, junction, over):
    """How many returns lack ahead of one that tells this, None where it can't follow."""
    road = gap_road(net, line, junction, over)
    if not road:
        return None
    return len(road) - 1


def gap_road(net, line, junction, over):
    """The shortest road to a line from which it may go over, of the shortest ones the least."""
    return road_to_any(net, line, lines_from(net, junction, over))


def lines_from(net, junction, over):
    """The junction's lines from which a wagon may go over to this one."""
    for name, joined in net[2]:
        if name == junction and over in joined:
            return [line for line in joined if line != over]
    return []


def in_order(returns):
    return sorted(returns, key=lambda row: (row[DAY], row[HOUR], row[NUMBER]))


def lacks_ahead(net, rows):
    """Of each return a dict: of each line on which it can follow how many lack."""
    beside = lines_beside(net)
    found = {}
    for row in rows:
        place = (row[JUNCTION], row[OVER])
        if place not in found:
            found[place] = steps_to(beside, lines_from(net, row[JUNCTION], row[OVER]))
    return [found[(row[JUNCTION], row[OVER])] for row in rows]


def fewest_onward(net, rows, lacks):
    """A list of dicts, one ahead of each return and one behind the last.

    Each has, for a wagon that is on a line then, the fewest wrong ones among the returns from there on.
    """
    found = [{line: 0 for line in net[0]}]
    for row, lack in reversed(list(zip(rows, lacks))):
        later = found[-1]
        fewest = {}
        for line in net[0]:
            fewest[line] = later[line] + 1
            if line in lack:
                fewest[line] = min(fewest[line], lack[line] + later[row[OVER]])
        found.append(fewest)
    found.reverse()
    return found


def histories_of(net, wagons, returns):
    """A dict: of each wagon its steps and its own returns."""
    found = {}
    for number, line in wagons:
        own = returns_of(returns, number)
        found[number] = (history(net, line, own)[0], own)
    return found


def returns_of(returns, wagon):
    return [row for row in returns if row[WAGON] == wagon]


def history(net, line, returns):
    """The wagon's history with the fewest wrong returns, as (steps, marks)."""
    rows = in_order(returns)
    lacks = lacks_ahead(net, rows)
    fewest = fewest_onward(net, rows, lacks)
    # The fewest of all less the fewest onward of a held return: a step onward adds at most what it costs,
    # since the fewest onward of the one ahead of it are at most that cost and its own fewest onward.
    marks = [fewest[0][line] - fewest[at][row[OVER]] for at, row in enumerate(rows, start=1)]
    return (steps_of(net, line, rows, lacks, fewest), marks)


def steps_of(net, line, rows, lacks, fewest):
    told = []
    for at, row in enumerate(rows):
        lack = lacks[at].get(line)
        # Held wherever that leaves it among the fewest, so that the earlier ones are held first.
        if lack is None or lack + fewest[at + 1][row[OVER]] > fewest[at][line]:
            told.append(("aside", row[NUMBER]))
            continue
        if lack > 0:
            road = gap_road(net, line, row[JUNCTION], row[OVER])
            told.append(("gap", tuple(road)))
            line = road[-1]
        told.append(("held", row[NUMBER], line, row[OVER]))
        line = row[OVER]
    return told


def held_returns(steps, returns):
    """The held returns in order, as (road, line, return): the gap's road ahead, empty without one, and from where."""
    by_number = {row[NUMBER]: row for row in returns}
    told = []
    road = ()
    for step in steps:
        if step[0] == "gap":
            road = step[1]
        elif step[0] == "held":
            told.append((road, step[2], by_number[step[1]]))
            road = ()
    return told


def look_history(net, line, returns, thing):
    """Refuses what is no history of these returns, or whose marks don't show that none has fewer wrong."""
    if not is_pair_of_lists(thing):
        raise NoProof("paper")
    steps, marks = thing
    rows = in_order(returns)
    if not is_history(net, line, rows, steps):
        raise NoProof("steps")
    if not are_marks(net, line, rows, marks):
        raise NoProof("marks")
    if wrong_in(steps) > most_wrong(marks):
        raise NoProof("many")


def is_history(net, line, rows, steps):
    """Whether each return is told once, in order, with gaps just where some lack."""
    at = 0
    for row in rows:
        told = steps[at:at + 2]
        if told and is_aside(row, told[0]):
            at += 1
            continue
        many = steps_to_hold(net, line, row, told)
        if many == 0:
            return False
        at += many
        line = row[OVER]
    return at == len(steps)


def steps_to_hold(net, line, row, told):
    """With how many of the told steps the return is held: one, two with a gap, 0 where it isn't."""
    lack = lacking(net, line, row[JUNCTION], row[OVER])
    if lack == 0 and told and is_held(row, line, told[0]):
        return 1
    if lack is None or lack == 0 or len(told) < 2 or not is_gap(net, line, row, lack, told[0]):
        return 0
    return 2 if is_held(row, told[0][1][-1], told[1]) else 0


def is_aside(row, step):
    # True is like a return's number 1, but no whole number.
    return is_tuple(step, 2, 2) and is_whole(step[1]) and step == ("aside", row[NUMBER])


def is_held(row, line, step):
    return is_tuple(step, 4, 4) and is_whole(step[1]) and step == ("held", row[NUMBER], line, row[OVER])


def is_gap(net, line, row, lack, step):
    if not is_tuple(step, 2, 2) or step[0] != "gap" or not is_tuple(step[1], lack + 1, lack + 1):
        return False
    road = step[1]
    if road[0] != line or road[-1] not in lines_from(net, row[JUNCTION], row[OVER]):
        return False
    return all([far in lines_joined(net, near) for near, far in zip(road, road[1:])])


def wrong_in(steps):
    """How many returns the steps put aside, and how many lack in their gaps."""
    asides = [step for step in steps if step[0] == "aside"]
    gaps = [len(step[1]) - 1 for step in steps if step[0] == "gap"]
    return len(asides) + sum(gaps)


def are_marks(net, line, rows, marks):
    """Whether they are as many whole numbers, and none is greater than those ahead of it let."""
    if len(marks) != len(rows) or not all([is_whole(mark) for mark in marks]):
        return False
    lines = [line] + [row[OVER] for row in rows]
    known = [0] + marks
    for at, lack in enumerate(lacks_ahead(net, rows), start=1):
        for last in range(at):
            if lines[last] in lack and known[at] > known[last] + at - last - 1 + lack[lines[last]]:
                return False
    return True


def most_wrong(marks):
    """The most wrong returns that the marks let a history have."""
    return min([mark + len(marks) - at for at, mark in enumerate([0] + marks)])


def perhaps_of(net, wagons, returns, paper):
    """The numbers of the wagons of which the return perhaps is."""
    return sorted([number for number, line in wagons if is_perhaps_of(net, number, line, returns, paper)])


def is_perhaps_of(net, number, line, returns, paper):
    if unlike_figures(number, paper[WAGON]) != 1:
        return False
    own = returns_of(returns, number)
    # A history doesn't look at the wagon's number, so the return is as good as one of that wagon.
    return fewest_wrong(net, line, own + [paper]) < fewest_wrong(net, line, own)


def unlike_figures(number, other):
    """In how many figures the numbers are unlike, noughts ahead."""
    figures = str(number).zfill(FIGURES)
    return len([1 for one, far in zip(figures, str(other).zfill(FIGURES)) if one != far])


def fewest_wrong(net, line, returns):
    rows = in_order(returns)
    return fewest_onward(net, rows, lacks_ahead(net, rows))[0][line]
