"""Things that several tests hand in: any things, names, a house with its papers, and drawn ones by a seed."""

import itertools
import random

ANY_THINGS = (
    None, True, False, 0, 1, -1, 9999, 10 ** 59, -(10 ** 59), "", "a", "north", "york", "~ !", "x" * 4000,
    [], (), [[]], ((),), [()], ([],), ["north"], ("north",), ("north", "south"), ["north", "south"],
    (1, 2, 3, 4), ((), (), (), ()), [(), (), (), ()], ("a", "b", "c", "d"), (None,) * 4,
    ((((((1,),),),),),), [[[[[["a"]]]]]], list(range(1500)), tuple(range(1500)), ("a",) * 1500,
)


def names(many, length=1):
    """Unlike names of that many letters, in order."""
    letters = itertools.product("abcdefghijklmnopqrstuvwxyz", repeat=length)
    return tuple("".join(next(letters)) for _ in range(many))


def put(thing, path, new):
    """The tuples within one another with the thing at the path put otherwise."""
    if not path:
        return new
    at = path[0]
    return thing[:at] + (put(thing[at], path[1:], new),) + thing[at + 1:]


def paths(thing, path=()):
    """The paths to all things within the tuples, and that to the whole."""
    found = [path]
    if isinstance(thing, tuple):
        for at, inner in enumerate(thing):
            found += paths(inner, path + (at,))
    return found


def at_path(thing, path):
    for at in path:
        thing = thing[at]
    return thing


def draw_net(chance, many_lines, many_stations, many_junctions, many_ties):
    """A net of at most so many ties, its lines in no order of texts."""
    lines = tuple(chance.sample(names(26), many_lines))
    places = names(many_stations + many_junctions, 2)
    stations = tuple((name, chance.choice(lines)) for name in places[:many_stations])
    junctions = tuple((name, draw_joined(chance, lines)) for name in places[many_stations:])
    at = {name: (line,) for name, line in stations} | dict(junctions)
    ties = []
    for one, far in chance.sample(list(itertools.combinations(places, 2)), len(places) * (len(places) - 1) // 2):
        common = [line for line in at[one] if line in at[far]]
        if common and len(ties) < many_ties:
            ends = chance.choice(((one, far), (far, one)))
            ties.append(ends + (chance.choice(common), chance.randint(1, chance.choice((3, 100, 9999)))))
    return (lines, stations, junctions, tuple(ties))


def draw_joined(chance, lines):
    many = min(len(lines), chance.choice((2, 2, 2, 3, 4)))
    return tuple(sorted(chance.sample(lines, many), key=lines.index))


def draw_way(chance, net):
    """A walk over unlike places from a station to a station, or None where chance leads to none."""
    stations = [name for name, line in net[1]]
    way = [chance.choice(stations)]
    while True:
        onward = [far for tie in net[3] for one, far in (tie[:2], tie[1::-1]) if one == way[-1] and far not in way]
        if not onward or (len(way) > 1 and way[-1] in stations and chance.random() < 0.3):
            break
        way.append(chance.choice(onward))
    while len(way) > 1 and way[-1] not in stations:
        way.pop()
    return tuple(way) if len(way) > 1 else None


def net_of(lines, *junctions):
    """A net of lines and junctions of one letter a line, a junction's name being that of its lines."""
    return (tuple(lines), (), tuple(("".join(joined), tuple(joined)) for joined in junctions), ())


# A row of five lines, an island of two, and one line without any junction.
ROW = net_of("abcdefgh", "ab", "bc", "cd", "de", "fg")
# A ring of six lines.
RING = net_of("abcdef", "ab", "bc", "cd", "de", "ef", "af")


def gone(number, junction, over, day=None, hour=0, wagon=1234, seal="whole", load="laden"):
    """A return, by its number if no day is told."""
    return ("return", number, 1, junction, number if day is None else day, hour, wagon, over, load, seal)


def walk(*words):
    """Returns of the numbers 1, 2 and so on, of words as "bc:c": at bc over to c."""
    return [gone(number, *word.split(":")) for number, word in enumerate(words, start=1)]


def draw_returns(chance, net, line, many):
    """Returns of a walk, of which some are misread, some fell out, and some are of one hour."""
    found = []
    day = chance.randint(1, 5)
    while len(found) < many and net[2]:
        near = [(name, over) for name, joined in net[2] if line in joined for over in joined if over != line]
        name, over = chance.choice(near or [(name, joined[0]) for name, joined in net[2]])
        line = over
        if chance.random() < 0.3:
            name, joined = chance.choice(net[2])
            over = chance.choice(joined)
        if chance.random() < 0.8:
            found.append((name, over, day, chance.randint(0, 2)))
        day = min(420, day + chance.choice((0, 0, 1)))
    numbers = chance.sample(range(1, 10000), len(found))
    rows = [gone(number, name, over, on, hour) for number, (name, over, on, hour) in zip(numbers, found)]
    chance.shuffle(rows)
    return rows


def draws(seed, many, most):
    """Nets, lines and returns, the same ones in each run."""
    chance = random.Random(seed)
    for _ in range(many):
        net = draw_net(chance, chance.randint(2, 7), 0, chance.randint(0, 7), 0)
        line = chance.choice(net[0])
        yield chance, net, line, draw_returns(chance, net, line, chance.randint(0, most))


# The house of several tests: a row of three lines.
NET = (
    ("north", "south", "east"),
    (("york", "north"), ("ripon", "north"), ("hull", "south"), ("bath", "east")),
    (("selby", ("north", "south")), ("crewe", ("south", "east"))),
    (("york", "ripon", "north", 5), ("york", "selby", "north", 10), ("selby", "hull", "south", 30),
     ("selby", "crewe", "south", 20), ("crewe", "bath", "east", 70)),
)
# By their chains: north 10, south 20, east 70; north 10, south 30; north 5.
WAYS = [
    ("york", "selby", "crewe", "bath"), ("york", "selby", "hull"), ("york", "ripon"), ("bath", "crewe", "selby", "york"),
]
WAGONS = [(20, "north"), (30, "south"), (9999, "east")]
# No end's sum, two free days, three pence a day, no leasts.
RULES = (0, 2, 3, (0, 0, 0))


def bill(number=7, day=31, way=0, paid=100, collected=0, cartage=(0, 0), wagon=20, edition=1):
    return ("waybill", number, edition, day, way, paid, collected, cartage, wagon)


def toll(number, line, first, last, pence, edition=1):
    return ("toll", number, edition, line, first, last, pence)


def claim(number=3, of=7, pence=100, edition=1):
    return ("claim", number, edition, of, pence)


def ruling(number, *told, of=3, edition=1):
    return ("ruling", number, edition, of, told)


def answer(number, line, of=3, edition=1):
    return ("answer", number, edition, of, line)


def draw_house(chance):
    """A net, ways, wagons and rules of an office."""
    while True:
        net = draw_net(chance, chance.randint(2, 6), chance.randint(2, 6), chance.randint(1, 6), 40)
        ways = [way for way in (draw_way(chance, net) for _ in range(10)) if way]
        if ways:
            break
    numbers = sorted(chance.sample((7, 17, 107, 117, 1017, 1018, 2017, 9999), chance.randint(1, 4)))
    wagons = [(number, chance.choice(net[0])) for number in numbers]
    rules = (chance.choice((0, 5, 50)), chance.choice((0, 1, 2, 5)), chance.choice((0, 3, 10)),
             tuple(chance.choice((0, 0, 30, 200)) for _ in net[0]))
    return (net, ways, wagons, rules)


def draw_paper(chance, house, kind, last_day):
    """A paper of the kind; of few numbers and editions, so that some are of one number, and some clash."""
    net, ways, wagons, rules = house
    most = {"return": 60, "withdrawal": 2}.get(kind, 5)
    head = (kind, chance.randint(1, most), chance.choice((1, 1, 2, 3, 4, 5, 6)))
    day, line, small = chance.randint(1, last_day), chance.choice(net[0]), chance.randint(1, 5)
    own = chance.choice(wagons)[0]
    if kind == "waybill":
        paid = (chance.choice((0, 10, 999)), chance.choice((0, 1, 500)))
        return head + (day, chance.randrange(len(ways)), *paid, (chance.choice((0, 7)), chance.choice((0, 9))), own)
    if kind == "return":
        name, joined = chance.choice(net[2])
        wagon = own if chance.random() < 0.8 else chance.choice((7, 117, 1117, 1, 2027))
        return head + (name, day, chance.randint(0, 23), wagon, chance.choice(joined),
                       chance.choice(("laden", "empty")), chance.choice(("whole", "whole", "broken")))
    if kind == "toll":
        return head + (line, day, chance.randint(day, 420), chance.choice((0, 1, 60)))
    if kind == "claim":
        return head + (small, chance.choice((0, 1, 100, 10 ** 9)))
    if kind == "answer":
        return head + (small, line)
    if kind == "ruling":
        return head + (small, chance.choice((("seals",), ("seals",), ("none",), ("line", line))))
    return head + (small,)


def draw_papers(chance, house, many, last_day=90):
    """Papers of all kinds, in any order of their days, some of them twice."""
    kinds = ("waybill",) * 4 + ("return",) * 8 + ("claim",) * 4 + ("toll", "toll", "answer", "answer", "ruling", "withdrawal")
    found = []
    while len(found) < many:
        if found and chance.random() < 0.1:
            found.append(chance.choice(found))
        else:
            found.append(draw_paper(chance, house, chance.choice(kinds), last_day))
    return found
