"""Papers: whether a thing is one, which stand, and which clash."""

from throughlines.kinds import is_tuple, is_whole, is_whole_between
from throughlines.nets import lines_at

MOST_PENCE = 10 ** 9
LAST_DAY = 420
LAST_HOUR = 23
LAST_NUMBER = 9999
LAST_EDITION = 99

# The places of what all papers have, of what a return has, and of a toll's first day.
NUMBER = 1
EDITION = 2
JUNCTION = 3
DAY = 4
HOUR = 5
WAGON = 6
OVER = 7
LOAD = 8
SEAL = 9
FIRST_DAY = 4

KINDS = ("waybill", "return", "toll", "claim", "answer", "ruling", "withdrawal")

# What stands behind the kind, by the words of CHECKS.
THINGS = {
    "waybill": ("number", "edition", "day", "way", "sum", "sum", "cartage", "own wagon"),
    "return": ("number", "edition", "junction", "day", "hour", "number", "over", "load", "seal"),
    "toll": ("number", "edition", "line", "day", "last day", "sum"),
    "claim": ("number", "edition", "number", "sum"),
    "answer": ("number", "edition", "number", "line"),
    "ruling": ("number", "edition", "number", "ruling"),
    "withdrawal": ("number", "edition", "number"),
}


def is_number(house, paper, thing):
    return is_whole_between(thing, 1, LAST_NUMBER)


def is_edition(house, paper, thing):
    return is_whole_between(thing, 1, LAST_EDITION)


def is_day(house, paper, thing):
    return is_whole_between(thing, 1, LAST_DAY)


def is_last_day(house, paper, thing):
    return is_day(house, paper, thing) and paper[FIRST_DAY] <= thing


def is_hour(house, paper, thing):
    return is_whole_between(thing, 0, LAST_HOUR)


def is_sum(house, paper, thing):
    return is_whole_between(thing, 0, MOST_PENCE)


def is_cartage(house, paper, thing):
    return is_tuple(thing, 2, 2) and all([is_sum(house, paper, pence) for pence in thing])


def is_way_number(house, paper, thing):
    net, ways, wagons = house
    return is_whole_between(thing, 0, len(ways) - 1)


def is_own_wagon(house, paper, thing):
    net, ways, wagons = house
    # True is like a wagon's number 1, but no whole number.
    return is_whole(thing) and thing in [number for number, line in wagons]


def is_junction_name(house, paper, thing):
    net, ways, wagons = house
    return thing in [name for name, joined in net[2]]


def is_over(house, paper, thing):
    net, ways, wagons = house
    return thing in lines_at(net, paper[JUNCTION])


def is_load(house, paper, thing):
    return thing in ("laden", "empty")


def is_seal(house, paper, thing):
    return thing in ("whole", "broken")


def is_line(house, paper, thing):
    net, ways, wagons = house
    return thing in net[0]


def is_ruling(house, paper, thing):
    if thing in (("seals",), ("none",)):
        return True
    return is_tuple(thing, 2, 2) and thing[0] == "line" and is_line(house, paper, thing[1])


# Each is asked in the order of the paper's things, so those ahead of its own are right.
CHECKS = {
    "number": is_number,
    "edition": is_edition,
    "day": is_day,
    "last day": is_last_day,
    "hour": is_hour,
    "sum": is_sum,
    "cartage": is_cartage,
    "way": is_way_number,
    "own wagon": is_own_wagon,
    "junction": is_junction_name,
    "over": is_over,
    "load": is_load,
    "seal": is_seal,
    "line": is_line,
    "ruling": is_ruling,
}


def fault(net, ways, wagons, thing):
    """The place of the first thing in it that is wrong, -1 where it is a paper."""
    if not isinstance(thing, tuple) or not thing or thing[0] not in KINDS:
        return 0
    words = THINGS[thing[0]]
    if len(thing) != len(words) + 1:
        return 0
    house = (net, ways, wagons)
    for at, word in enumerate(words, start=1):
        check = CHECKS[word]
        if not check(house, thing, thing[at]):
            return at
    return -1


def newest_papers(papers):
    """A dict: of each kind and number the unlike papers of the greatest edition."""
    found = {}
    for paper in papers:
        key = (paper[0], paper[NUMBER])
        kept = found.get(key, [])
        if not kept or kept[0][EDITION] < paper[EDITION]:
            found[key] = [paper]
        elif kept[0][EDITION] == paper[EDITION] and paper not in kept:
            found[key] = kept + [paper]
    return found


def standing(papers, kind):
    """The standing papers of the kind, by number."""
    newest = newest_papers(papers)
    keys = sorted([key for key in newest if key[0] == kind and len(newest[key]) == 1])
    return [newest[key][0] for key in keys]


def all_standing(papers):
    """A dict: of each kind a dict of its standing papers, by number."""
    newest = newest_papers(papers)
    found = {kind: {} for kind in KINDS}
    for kind, number in sorted(list(newest)):
        if len(newest[(kind, number)]) == 1:
            found[kind][number] = newest[(kind, number)][0]
    return found


def clashing(papers):
    """The kinds and numbers of which none stands, as (kind, number)."""
    newest = newest_papers(papers)
    clashed = [key for key in newest if len(newest[key]) > 1]
    return sorted(clashed, key=lambda key: (KINDS.index(key[0]), key[1]))
