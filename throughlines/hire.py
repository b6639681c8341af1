"""Hire: where a wagon stands each day, who owes hire for it, and which returns tell that it went astray."""

from throughlines.histories import held_returns
from throughlines.papers import DAY, LOAD, NUMBER, OVER


def wagon_days(steps, returns):
    """Of each day from the first held return to the last one where the wagon stands, as (day, place)."""
    held = held_returns(steps, returns)
    told = []
    for (road, line, row), (road_onward, line_onward, onward) in zip(held, held[1:]):
        place = ("gap", onward[NUMBER]) if road_onward else ("line", row[OVER])
        told += [(day, place) for day in range(row[DAY], onward[DAY])]
    if held:
        road, line, last = held[-1]
        told.append((last[DAY], ("line", last[OVER])))
    return told


def hire_days(line, free, steps, returns):
    """The days for which hire is owed, as (day, the line that owes it); line is the owner's."""
    roads = {row[NUMBER]: road for road, near, row in held_returns(steps, returns)}
    told = []
    many = 0
    last = None
    for day, place in wagon_days(steps, returns):
        # The days told have none left out, so the same place again is a neighbouring day there.
        many = many + 1 if place == last else 1
        last = place
        kind, name = place
        if kind == "gap":
            told.append((day, owing_in_gap(line, roads[name])))
        elif name != line and many > free:
            told.append((day, name))
    return told


def owing_in_gap(line, road):
    return road[1] if road[0] == line else road[0]


def astray(line, steps, returns):
    """The numbers of the empty wagon's returns that don't lead home by the way it came; line is the owner's."""
    kept = [line]
    told = []
    for road, near, row in held_returns(steps, returns):
        for name in road:
            kept = kept_behind(kept, name)
        if row[LOAD] == "empty" and len(kept) > 1 and row[OVER] != kept[-2]:
            told.append(row[NUMBER])
        kept = kept_behind(kept, row[OVER])
    return told


def kept_behind(kept, line):
    """The lines kept when the wagon went over to this one."""
    if line in kept:
        return kept[:kept.index(line) + 1]
    return kept + [line]
