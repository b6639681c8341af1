"""The net: lines, stations, junctions and ties, and the roads from line to line."""

from throughlines.kinds import all_unlike, is_name, is_tuple, is_whole_between

MOST_LINES = 8
MOST_STATIONS = 16
MOST_JUNCTIONS = 12
MOST_TIES = 40
MOST_CHAINS = 9999


def is_net(thing):
    if not is_tuple(thing, 4, 4):
        return False
    lines, stations, junctions, ties = thing
    return (
        are_lines(lines)
        and are_stations(lines, stations)
        and are_junctions(lines, junctions)
        and all_unlike([place[0] for place in stations + junctions])
        and are_ties(lines_by_place(stations, junctions), ties)
    )


def are_lines(thing):
    if not is_tuple(thing, 1, MOST_LINES):
        return False
    return all([is_name(line) for line in thing]) and all_unlike(thing)


def are_stations(lines, thing):
    if not is_tuple(thing, 0, MOST_STATIONS):
        return False
    return all([is_station(lines, station) for station in thing])


def is_station(lines, thing):
    return is_tuple(thing, 2, 2) and is_name(thing[0]) and thing[1] in lines


def are_junctions(lines, thing):
    if not is_tuple(thing, 0, MOST_JUNCTIONS):
        return False
    return all([is_junction(lines, junction) for junction in thing])


def is_junction(lines, thing):
    return is_tuple(thing, 2, 2) and is_name(thing[0]) and are_joined(lines, thing[1])


def are_joined(lines, thing):
    """Whether it is a tuple of two or more of the lines, in their order."""
    if not is_tuple(thing, 2, len(lines)):
        return False
    return thing == tuple([line for line in lines if line in thing])


def lines_by_place(stations, junctions):
    """A dict: of each place its lines."""
    found = {name: (line,) for name, line in stations}
    for name, joined in junctions:
        found[name] = joined
    return found


def are_ties(places, thing):
    if not is_tuple(thing, 0, MOST_TIES):
        return False
    if not all([is_tie(places, tie) for tie in thing]):
        return False
    # Two ties are of the same places, too, where these are told the other way about.
    return all_unlike([tuple(sorted(tie[:2])) for tie in thing])


def is_tie(places, thing):
    if not is_tuple(thing, 4, 4):
        return False
    place, far, line, chains = thing
    # Names first: what is none may be a list, which can't be looked up.
    if not is_name(place) or not is_name(far) or place == far:
        return False
    if line not in places.get(place, ()) or line not in places.get(far, ()):
        return False
    return is_whole_between(chains, 1, MOST_CHAINS)


def lines_at(net, place):
    """The lines at a place, in the net's order."""
    lines, stations, junctions, ties = net
    return lines_by_place(stations, junctions).get(place, ())


def tie_between(net, place, far):
    """The tie that joins the two, as (line, chains), or None."""
    for one, other, line, chains in net[3]:
        if (one, other) == (place, far) or (one, other) == (far, place):
            return (line, chains)
    return None


def road_of_lines(net, line, far):
    """The shortest road of lines, of the shortest ones the least."""
    if far not in net[0]:
        return []
    return road_to_any(net, line, [far])


def road_to_any(net, line, fars):
    """The shortest road of lines to any of the far ones, of the shortest ones the least."""
    if line not in net[0]:
        return []
    beside = lines_beside(net)
    steps = steps_to(beside, fars)
    if line not in steps:
        return []
    road = [line]
    while steps[road[-1]] > 0:
        nearer = steps[road[-1]] - 1
        onward = [near for near in beside[road[-1]] if steps[near] == nearer]
        # Each of these has a shortest road behind it, so the least one begins the least road.
        road.append(min(onward))
    return road


def steps_to(beside, fars):
    """A dict: of each line that has a road to one of the far ones how many steps the shortest takes."""
    steps = {}
    many = 0
    edge = fars
    while edge:
        for line in edge:
            steps[line] = many
        many += 1
        edge = sorted({near for line in edge for near in beside[line] if near not in steps})
    return steps


def lines_beside(net):
    """A dict: of each line those that have a junction in common with it, itself among them if any has."""
    return {line: lines_joined(net, line) for line in net[0]}


def lines_joined(net, line):
    return sorted({beside for name, joined in net[2] if line in joined for beside in joined})
