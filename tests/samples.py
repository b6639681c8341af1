"""Things that several tests hand in: any things, names, nets and ways drawn by a seed."""

import itertools

ANY_THINGS = (
    None, True, False, 0, 1, -1, 9999, 10 ** 59, -(10 ** 59), "", "a", "north", "york", "~ !", "x" * 4000,
    [], (), [[]], ((),), [()], ([],), ["north"], ("north",), ("north", "south"), ["north", "south"],
    (1, 2, 3, 4), ((), (), (), ()), [(), (), (), ()], ("a", "b", "c", "d"), (None,) * 4,
    ((((((1,),),),),),), [[[[[["a"]]]]]], list(range(1500)), tuple(range(1500)), ("a",) * 1500,
)


def names(many, length=1):
    """Unlike names of that many letters, in order."""
    letters = itertools.product("abcdefghijklmnopqrstuvwxyz", repeat=length)
    return tuple("".join(next(letters)) for _ in range(many))


def put(thing, path, new):
    """The tuples within one another with the thing at the path put otherwise."""
    if not path:
        return new
    at = path[0]
    return thing[:at] + (put(thing[at], path[1:], new),) + thing[at + 1:]


def paths(thing, path=()):
    """The paths to all things within the tuples, and that to the whole."""
    found = [path]
    if isinstance(thing, tuple):
        for at, inner in enumerate(thing):
            found += paths(inner, path + (at,))
    return found


def at_path(thing, path):
    for at in path:
        thing = thing[at]
    return thing


def draw_net(chance, many_lines, many_stations, many_junctions, many_ties):
    """A net of at most so many ties, its lines in no order of texts."""
    lines = tuple(chance.sample(names(26), many_lines))
    places = names(many_stations + many_junctions, 2)
    stations = tuple((name, chance.choice(lines)) for name in places[:many_stations])
    junctions = tuple((name, draw_joined(chance, lines)) for name in places[many_stations:])
    at = {name: (line,) for name, line in stations} | dict(junctions)
    ties = []
    for one, far in chance.sample(list(itertools.combinations(places, 2)), len(places) * (len(places) - 1) // 2):
        common = [line for line in at[one] if line in at[far]]
        if common and len(ties) < many_ties:
            ends = chance.choice(((one, far), (far, one)))
            ties.append(ends + (chance.choice(common), chance.randint(1, chance.choice((3, 100, 9999)))))
    return (lines, stations, junctions, tuple(ties))


def draw_joined(chance, lines):
    many = min(len(lines), chance.choice((2, 2, 2, 3, 4)))
    return tuple(sorted(chance.sample(lines, many), key=lines.index))


def draw_way(chance, net):
    """A walk over unlike places from a station to a station, or None where chance leads to none."""
    stations = [name for name, line in net[1]]
    way = [chance.choice(stations)]
    while True:
        onward = [far for tie in net[3] for one, far in (tie[:2], tie[1::-1]) if one == way[-1] and far not in way]
        if not onward or (len(way) > 1 and way[-1] in stations and chance.random() < 0.3):
            break
        way.append(chance.choice(onward))
    while len(way) > 1 and way[-1] not in stations:
        way.pop()
    return tuple(way) if len(way) > 1 else None
