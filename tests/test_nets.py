"""Points 7 and 8, and point 2 as far as these functions go."""

import itertools
import random
import unittest

from samples import ANY_THINGS, at_path, names, paths, put
from throughlines.nets import is_net, lines_at, road_of_lines, tie_between

LINES = ("north", "south", "east", "west")
STATIONS = (("york", "north"), ("hull", "south"), ("leeds", "south"), ("bath", "west"))
JUNCTIONS = (("selby", ("north", "south")), ("crewe", ("south", "east", "west")))
TIES = (
    ("york", "selby", "north", 120),
    ("selby", "hull", "south", 300),
    ("leeds", "selby", "south", 1),
    ("selby", "crewe", "south", 9999),
    ("crewe", "bath", "west", 77),
)
NET = (LINES, STATIONS, JUNCTIONS, TIES)


def with_lines(lines):
    return (lines, (), (), ())


def with_stations(stations):
    return (LINES, stations, (), ())


def with_junctions(junctions):
    return (LINES, (), junctions, ())


def with_ties(ties):
    return (LINES, STATIONS, JUNCTIONS, ties)


def of_many_ties(many):
    """A net of one line whose ties join that many of its pairs of places."""
    places = names(10)
    pairs = list(itertools.combinations(places, 2))
    stations = tuple((place, "line") for place in places)
    return (("line",), stations, (), tuple((one, far, "line", 5) for one, far in pairs[:many]))


def of_junctions(*joined):
    """A net of eight lines, a to h, and a junction for each text of lines."""
    marks = names(len(joined), 2)
    return (tuple("abcdefgh"), (), tuple((mark, tuple(lines)) for mark, lines in zip(marks, joined)), ())


class Net(unittest.TestCase):
    def told(self, truth, *things):
        for thing in things:
            with self.subTest(repr(thing)[:200]):
                self.assertIs(is_net(thing), truth)

    def test_nets(self):
        self.told(True, NET, (("a",), (), (), ()), with_lines(LINES), with_stations(STATIONS),
                  with_junctions(JUNCTIONS), with_ties(()), with_ties(TIES))

    def test_the_whole(self):
        self.told(False, list(NET), NET[:3], NET + ((),), (), (NET,), [NET])
        for at in range(4):
            self.told(False, put(NET, (at,), list(NET[at])))

    def test_any_things(self):
        self.told(False, *ANY_THINGS)

    def test_any_things_within_a_net(self):
        for path in paths(NET):
            if not path:
                continue
            for thing in ANY_THINGS:
                changed = put(NET, path, thing)
                with self.subTest(path=path, thing=repr(thing)[:60]):
                    self.assertIs(type(is_net(changed)), bool)
                    if isinstance(thing, (list, type(None), bool)):
                        self.assertIs(is_net(changed), False)

    def test_a_list_where_a_tuple_is_told(self):
        for path in paths(NET):
            inner = at_path(NET, path)
            if isinstance(inner, tuple):
                self.told(False, put(NET, path, list(inner)))

    def test_a_thing_left_out_or_put_in(self):
        inner_tuples = [(1, 0), (2, 0), (3, 0)]
        for path in inner_tuples:
            inner = at_path(NET, path)
            for at in range(len(inner)):
                self.told(False, put(NET, path, inner[:at] + inner[at + 1:]))
            self.told(False, put(NET, path, inner + (inner[-1],)), put(NET, path, inner[:1] + inner))

    def test_names_of_lines(self):
        self.told(True, with_lines(("abcdefgh",)), with_lines(("a", "z")))
        self.told(False, with_lines(("",)), with_lines(("abcdefghi",)), with_lines(("North",)),
                  with_lines(("norTh",)), with_lines(("a1",)), with_lines(("a b",)), with_lines(("a-",)),
                  with_lines((1,)), with_lines((None,)), with_lines((("a",),)), with_lines((["a"],)))

    def test_how_many_lines(self):
        self.told(True, with_lines(names(1)), with_lines(names(8)))
        self.told(False, with_lines(()), with_lines(names(9)))

    def test_unlike_lines(self):
        self.told(False, with_lines(("a", "a")), with_lines(("a", "b", "a")))

    def test_names_of_places(self):
        self.told(True, with_stations((("abcdefgh", "east"),)), with_junctions((("abcdefgh", LINES),)))
        for name in ("", "abcdefghi", "York", "a.b", 1, None, ("a",), ["a"], True):
            self.told(False, with_stations(((name, "east"),)), with_junctions(((name, LINES),)))

    def test_how_many_stations(self):
        def of_many(many):
            return with_stations(tuple((name, "east") for name in names(many)))
        self.told(True, of_many(0), of_many(1), of_many(16))
        self.told(False, of_many(17))

    def test_a_stations_line(self):
        for line in ("none", "york", "", None, 0, ("east",), ["east"], LINES):
            self.told(False, with_stations((("york", line),)))

    def test_how_many_junctions(self):
        def of_many(many):
            return with_junctions(tuple((name, LINES[:2]) for name in names(many)))
        self.told(True, of_many(0), of_many(1), of_many(12))
        self.told(False, of_many(13))

    def test_a_junctions_lines(self):
        def joined(lines):
            return with_junctions((("selby", lines),))
        for many in (2, 3, 4):
            for lines in itertools.combinations(LINES, many):
                self.told(True, joined(lines))
        # None, one alone, one twice, in another order, one that is none, no tuple.
        self.told(False, joined(()), joined(("north",)), joined(("north", "north")),
                  joined(("north", "south", "south")), joined(("south", "north")),
                  joined(("north", "east", "south")), joined(("east", "north", "west")),
                  joined(("north", "none")), joined(("none", "north")), joined(("north", "selby")),
                  joined(("north", None)), joined(("north", ["south"])), joined(["north", "south"]),
                  joined("north"), joined(None), joined(LINES + ("north",)))

    def test_the_nets_order_is_not_that_of_texts(self):
        junction = (("selby", ("b", "a")),)
        self.told(True, (("b", "a"), (), junction, ()))
        self.told(False, (("a", "b"), (), junction, ()))

    def test_two_places_of_one_name(self):
        self.told(False, with_stations((("york", "north"), ("york", "north"))),
                  with_stations((("york", "north"), ("hull", "south"), ("york", "south"))),
                  with_junctions((("selby", LINES), ("selby", LINES))),
                  with_junctions((("selby", LINES[:2]), ("selby", LINES[2:]))),
                  (LINES, (("york", "north"),), (("york", LINES),), ()),
                  (LINES, (("hull", "south"), ("york", "north")), (("york", LINES),), ()))

    def test_a_line_may_have_the_name_of_a_place(self):
        self.told(True, with_stations((("north", "north"),)), with_stations((("north", "south"),)),
                  with_junctions((("east", LINES),)))

    def test_how_many_ties(self):
        self.told(True, of_many_ties(0), of_many_ties(1), of_many_ties(40))
        self.told(False, of_many_ties(41))

    def test_a_ties_ends(self):
        self.told(True, with_ties((("hull", "leeds", "south", 5),)), with_ties((("crewe", "selby", "south", 5),)))
        # A place to itself, a station or a junction; places that are none.
        self.told(False, with_ties((("york", "york", "north", 5),)), with_ties((("selby", "selby", "north", 5),)),
                  with_ties((("none", "york", "north", 5),)), with_ties((("york", "none", "north", 5),)),
                  with_ties((("none", "york", "none", 5),)), with_ties((("york", "north", "north", 5),)))
        for place in ("", None, 1, True, ["york"], ("york",), ("york", "north"), STATIONS[0]):
            self.told(False, with_ties(((place, "selby", "north", 5),)), with_ties((("selby", place, "north", 5),)))

    def test_a_ties_line(self):
        # The far station, the near one, the junction behind or ahead hasn't it.
        self.told(False, with_ties((("york", "hull", "north", 5),)), with_ties((("york", "hull", "south", 5),)),
                  with_ties((("bath", "selby", "west", 5),)), with_ties((("selby", "bath", "west", 5),)),
                  with_ties((("york", "selby", "south", 5),)), with_ties((("selby", "york", "south", 5),)),
                  with_ties((("selby", "crewe", "north", 5),)), with_ties((("selby", "crewe", "east", 5),)))
        for line in ("none", "", None, 1, ["south"], ("south",), ("north", "south")):
            self.told(False, with_ties((("selby", "hull", line, 5),)), with_ties((("selby", "crewe", line, 5),)))

    def test_a_ties_chains(self):
        def of_chains(chains):
            return with_ties((("york", "selby", "north", chains),))
        self.told(True, of_chains(1), of_chains(2), of_chains(9999))
        self.told(False, *[of_chains(chains) for chains in (
            0, 10000, True, False, -1, 10 ** 59, None, "5", [5], (5,))])

    def test_two_ties_of_the_same_places(self):
        first = ("selby", "crewe", "south", 5)
        self.told(False, with_ties((first, first)), with_ties((first, ("selby", "crewe", "south", 6))),
                  with_ties((first, ("crewe", "selby", "south", 5))),
                  with_ties((first, ("york", "selby", "north", 5), ("crewe", "selby", "south", 7))))

    def test_two_ties_of_the_same_places_on_unlike_lines(self):
        lines = ("north", "south")
        junctions = (("york", lines), ("hull", lines))
        first = ("york", "hull", "north", 5)
        self.told(True, (lines, (), junctions, (first,)))
        self.told(False, (lines, (), junctions, (first, ("york", "hull", "south", 5))),
                  (lines, (), junctions, (first, ("hull", "york", "south", 5))))

    def test_the_greatest_net(self):
        lines = names(8, 8)
        places = names(28, 8)
        stations = tuple((name, lines[-1]) for name in places[:16])
        junctions = tuple((name, lines) for name in places[16:])
        pairs = list(itertools.combinations(places, 2))[-40:]
        self.told(True, (lines, stations, junctions, tuple((one, far, lines[-1], 9999) for one, far in pairs)))


class LinesAt(unittest.TestCase):
    def test_a_station_has_its_one(self):
        self.assertEqual([lines_at(NET, name) for name, line in STATIONS],
                         [("north",), ("south",), ("south",), ("west",)])

    def test_a_junction_has_its_lines_in_the_nets_order(self):
        self.assertEqual(lines_at(NET, "selby"), ("north", "south"))
        self.assertEqual(lines_at(NET, "crewe"), ("south", "east", "west"))

    def test_a_place_with_the_name_of_a_line(self):
        net = (("a", "b"), (("a", "b"),), (("b", ("a", "b")),), ())
        self.assertEqual((lines_at(net, "a"), lines_at(net, "b")), (("b",), ("a", "b")))


class TieBetween(unittest.TestCase):
    def test_from_either_end(self):
        for place, far, line, chains in TIES:
            self.assertEqual(tie_between(NET, place, far), (line, chains))
            self.assertEqual(tie_between(NET, far, place), (line, chains))

    def test_unlike_places_without_a_tie(self):
        for place, far in (("york", "hull"), ("hull", "york"), ("york", "crewe"), ("hull", "leeds")):
            self.assertIsNone(tie_between(NET, place, far))

    def test_one_place_twice(self):
        for place in ("york", "hull", "selby", "crewe"):
            self.assertIsNone(tie_between(NET, place, place))

    def test_things_that_are_no_places(self):
        for thing in ANY_THINGS:
            if thing == "york":
                continue
            with self.subTest(repr(thing)[:60]):
                self.assertIsNone(tie_between(NET, thing, "selby"))
                self.assertIsNone(tie_between(NET, "selby", thing))
                self.assertIsNone(tie_between(NET, thing, thing))

    def test_without_ties(self):
        self.assertIsNone(tie_between(with_ties(()), "york", "selby"))


def all_roads(net, line, far):
    """Every road of unlike lines, by trying all rows of lines."""
    others = [name for name in net[0] if name not in (line, far)]
    ends = ([line], [far]) if line != far else ([line], [])
    found = []
    for many in range(len(others) + 1):
        for between in itertools.permutations(others, many):
            road = ends[0] + list(between) + ends[1]
            if all(any(one in joined and far_one in joined for name, joined in net[2])
                   for one, far_one in zip(road, road[1:])):
                found.append(road)
    return found


class RoadOfLines(unittest.TestCase):
    def test_to_the_line_itself(self):
        for line in LINES:
            self.assertEqual(road_of_lines(NET, line, line), [line])
        self.assertEqual(road_of_lines((("a",), (), (), ()), "a", "a"), ["a"])

    def test_to_a_neighbour(self):
        self.assertEqual(road_of_lines(NET, "north", "south"), ["north", "south"])
        self.assertEqual(road_of_lines(NET, "west", "east"), ["west", "east"])

    def test_over_several_lines(self):
        self.assertEqual(road_of_lines(NET, "north", "west"), ["north", "south", "west"])
        self.assertEqual(road_of_lines(NET, "west", "north"), ["west", "south", "north"])
        row = of_junctions("ab", "bc", "cd", "de", "ef", "fg", "gh")
        self.assertEqual(road_of_lines(row, "a", "h"), list("abcdefgh"))
        self.assertEqual(road_of_lines(row, "h", "a"), list("hgfedcba"))

    def test_the_shortest_one(self):
        net = of_junctions("ab", "bc", "cd", "de", "eg", "ah", "gh")
        self.assertEqual(road_of_lines(net, "a", "g"), list("ahg"))
        self.assertEqual(road_of_lines(net, "a", "e"), list("ahge"))

    def test_the_least_of_the_shortest_ones(self):
        net = of_junctions("af", "fh", "ac", "ch", "ae", "eh")
        self.assertEqual(road_of_lines(net, "a", "h"), list("ach"))
        # The least by its first unlike line: b's further road is f, though e is less.
        net = of_junctions("ab", "ac", "bf", "ce", "fh", "eh")
        self.assertEqual(road_of_lines(net, "a", "h"), list("abfh"))
        self.assertEqual(road_of_lines(net, "h", "a"), list("heca"))

    def test_the_least_as_texts_are_not_in_the_nets_order(self):
        net = (("z", "y", "x", "w"), (), (("p", ("z", "y")), ("q", ("z", "x")), ("r", ("y", "w")), ("s", ("x", "w"))), ())
        self.assertEqual(road_of_lines(net, "z", "w"), ["z", "x", "w"])
        self.assertEqual(road_of_lines(net, "w", "z"), ["w", "x", "z"])

    def test_none_at_all(self):
        net = of_junctions("ab", "bc", "de")
        self.assertEqual(road_of_lines(net, "a", "d"), [])
        self.assertEqual(road_of_lines(net, "e", "c"), [])
        self.assertEqual(road_of_lines(net, "a", "h"), [])
        self.assertEqual(road_of_lines(net, "h", "a"), [])
        self.assertEqual(road_of_lines(net, "g", "h"), [])

    def test_a_tie_makes_no_road(self):
        net = (("a", "b"), (("york", "a"), ("hull", "a")), (), (("york", "hull", "a", 5),))
        self.assertEqual(road_of_lines(net, "a", "b"), [])

    def test_against_all_roads(self):
        chance = random.Random(8)
        for _ in range(40):
            lines = chance.sample(names(26), 6)
            joined = [sorted(chance.sample(lines, chance.choice((2, 2, 2, 3))), key=lines.index)
                      for _ in range(chance.randint(0, 9))]
            net = (tuple(lines), (), tuple(zip(names(len(joined), 2), map(tuple, joined))), ())
            self.assertTrue(is_net(net))
            for line, far in itertools.product(lines, repeat=2):
                roads = all_roads(net, line, far)
                least = min(roads, key=lambda road: (len(road), road)) if roads else []
                with self.subTest(net=net, line=line, far=far):
                    self.assertEqual(road_of_lines(net, line, far), least)


class HandedIn(unittest.TestCase):
    """Point 2: what is handed in stays, what is told is new and the asker's own."""

    def test_a_told_road_is_the_askers_own(self):
        for line, far in (("north", "west"), ("north", "north"), ("north", "south")):
            told = road_of_lines(NET, line, far)
            kept = list(told)
            self.assertIs(type(told), list)
            told.append("more")
            told[0] = "less"
            self.assertEqual(road_of_lines(NET, line, far), kept)
        alone = road_of_lines(with_lines(LINES), "north", "south")
        alone.append("more")
        self.assertEqual(road_of_lines(with_lines(LINES), "north", "south"), [])

    def test_any_thing_is_unchanged_behind_the_call(self):
        things = [list(NET), put(NET, (2, 0, 1), ["north", "south"]), [[["a"], "b"], 5]]
        before = repr(things)
        for thing in things:
            is_net(thing)
            tie_between(NET, thing, "york")
        self.assertEqual(repr(things), before)

    def test_tuples_are_told_where_tuples_are(self):
        self.assertIs(type(lines_at(NET, "york")), tuple)
        self.assertIs(type(lines_at(NET, "crewe")), tuple)
        self.assertIs(type(tie_between(NET, "york", "selby")), tuple)


if __name__ == "__main__":
    unittest.main()
