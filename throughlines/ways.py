"""Ways from station to station: their legs, crossings and chains."""

from throughlines.kinds import all_unlike, is_name, is_tuple
from throughlines.nets import tie_between

MOST_PLACES = 28


def is_way(net, thing):
    if not is_tuple(thing, 2, MOST_PLACES):
        return False
    # Names first: what is none may be a list, of which it can't be seen whether it comes twice.
    if not all([is_name(place) for place in thing]) or not all_unlike(thing):
        return False
    stations = [name for name, line in net[1]]
    return thing[0] in stations and thing[-1] in stations and None not in ties_along(net, thing)


def ties_along(net, way):
    """The ties from place to place, as (line, chains), None where there is none."""
    return [tie_between(net, place, far) for place, far in zip(way, way[1:])]


def legs(net, way):
    """The runs of ties of one line, as (line, chains)."""
    told = []
    for line, chains in ties_along(net, way):
        if told and told[-1][0] == line:
            told[-1] = (line, told[-1][1] + chains)
        else:
            told.append((line, chains))
    return told


def crossings(net, way):
    """The junctions between the legs, as (junction, line ahead, line behind)."""
    lines = [line for line, chains in ties_along(net, way)]
    return [(place, line, onward) for place, line, onward in zip(way[1:], lines, lines[1:]) if line != onward]


def line_chains(net, way):
    """Each line once, by its first leg, with the chains of all its legs."""
    return chains_by_line(legs(net, way))


def chains_by_line(run):
    """Of some legs each line once, by the first of them, with the chains of all of them."""
    found = {}
    for line, chains in run:
        found[line] = found.get(line, 0) + chains
    return list(found.items())
