"""Point 9, and point 2 as far as these functions go."""

import copy
import itertools
import random
import unittest

from samples import ANY_THINGS, draw_net, draw_way, names
from throughlines.nets import is_net
from throughlines.ways import crossings, is_way, legs, line_chains

NET = (
    ("north", "south", "east"),
    (("york", "north"), ("ripon", "north"), ("hull", "south"), ("leeds", "south"), ("bath", "east"), ("south", "south")),
    (("selby", ("north", "south")), ("crewe", ("south", "east")), ("derby", ("north", "south", "east"))),
    (
        ("york", "ripon", "north", 10),
        ("selby", "ripon", "north", 20),
        ("york", "selby", "north", 15),
        ("selby", "hull", "south", 30),
        ("hull", "crewe", "south", 40),
        ("bath", "crewe", "east", 50),
        ("selby", "crewe", "south", 60),
        ("selby", "derby", "north", 7),
        ("crewe", "derby", "south", 8),
        ("derby", "leeds", "south", 9),
        ("derby", "bath", "east", 9999),
    ),
)
LONG = ("york", "ripon", "selby", "hull", "crewe", "bath")
TWICE = ("hull", "selby", "derby", "leeds")


def row_net(many):
    """A row of so many places, stations but for twelve junctions within, ties of lines a and b in turn there."""
    places = names(many, 2)
    inner = places[8:20]
    stations = tuple((place, "a") for place in places if place not in inner)
    junctions = tuple((place, ("a", "b")) for place in inner)
    ties = []
    for at, (one, far) in enumerate(zip(places, places[1:])):
        line = "b" if one in inner and far in inner and at % 2 else "a"
        ties.append((one, far, line, at + 1))
    return ((("a", "b"), stations, junctions, tuple(ties)), places)


def by_words(net, thing):
    """Whether it is a way, by point 9's words, of a tuple of texts."""
    stations = [name for name, line in net[1]]
    tied = [set(tie[:2]) for tie in net[3]]
    return (2 <= len(thing) <= 28 and len(set(thing)) == len(thing)
            and thing[0] in stations and thing[-1] in stations
            and all({one, far} in tied for one, far in zip(thing, thing[1:])))


def tie_of(net, one, far):
    return [tie[2:] for tie in net[3] if set(tie[:2]) == {one, far}][0]


class IsWay(unittest.TestCase):
    def told(self, truth, net, *things):
        for thing in things:
            with self.subTest(repr(thing)[:200]):
                self.assertIs(is_way(net, thing), truth)

    def test_the_nets_here(self):
        self.assertTrue(is_net(NET))
        self.assertTrue(is_net(row_net(28)[0]))

    def test_ways(self):
        self.told(True, NET, LONG, LONG[::-1], TWICE, ("york", "selby", "ripon"), ("york", "selby", "crewe", "bath"))

    def test_two_places(self):
        self.told(True, NET, ("york", "ripon"), ("ripon", "york"))

    def test_28_places(self):
        net, places = row_net(28)
        self.told(True, net, places, places[::-1], places[:2], places[:27][::-1], places[3:25])

    def test_29_places(self):
        # Beyond a net's bounds, so that nothing but the number of places is wrong.
        net, places = row_net(29)
        self.told(True, net, places[:28], places[1:])
        self.told(False, net, places, places[::-1])

    def test_too_few_places(self):
        self.told(False, NET, (), ("york",), ("selby",))

    def test_a_place_twice(self):
        self.told(False, NET, ("york", "york"), ("york", "ripon", "york"), ("york", "ripon", "selby", "york"),
                  ("york", "selby", "crewe", "derby", "selby", "ripon"), ("york", "ripon", "york", "selby", "hull"))

    def test_an_end_that_is_a_junction(self):
        self.told(False, NET, ("selby", "york"), ("york", "selby"), ("selby", "crewe"), LONG[2:], LONG[:-1],
                  LONG[:3], ("selby", "hull", "crewe"))

    def test_neighbours_without_a_tie(self):
        self.told(False, NET, ("york", "hull"), ("hull", "leeds"), ("york", "crewe", "bath"), ("york", "ripon", "hull"),
                  ("bath", "derby", "hull"), LONG[:2] + LONG[3:], LONG[:1] + LONG[2:3] + LONG[:2:-1])

    def test_a_station_without_any_tie(self):
        self.told(False, NET, ("south", "hull"), ("hull", "south"), ("south",), ("south", "south"))

    def test_a_list_in_place_of_the_tuple(self):
        self.told(False, NET, list(LONG), ["york", "ripon"], [LONG], (LONG,), (list(LONG),), "york", "york ripon")

    def test_things_that_are_no_places(self):
        self.told(False, NET, ("north", "south"), ("york", "none"), ("none", "york"), ("york", "none", "ripon"),
                  ("york", ""), ("york", "ripon", ""), ("York", "ripon"), ("york ", "ripon"))

    def test_any_things(self):
        self.told(False, NET, *ANY_THINGS)
        self.told(False, NET, NET, list(NET), NET[1], NET[3][0], [NET])

    def test_any_things_among_the_places(self):
        for thing in ANY_THINGS:
            for at in range(len(LONG)):
                if thing != LONG[at]:
                    self.told(False, NET, LONG[:at] + (thing,) + LONG[at + 1:], LONG[:at] + (thing,) + LONG[at:])
            self.told(False, NET, (thing, thing), LONG + (thing,))

    def test_a_net_without_ties_or_places(self):
        self.told(False, (("a",), (), (), ()), ("a", "b"), (), ("a",))
        self.told(False, (("a",), (("p", "a"), ("q", "a")), (), ()), ("p", "q"))

    def test_all_rows_of_places(self):
        places = ("york", "ripon", "hull", "leeds", "selby", "crewe", "derby", "bath")
        found = 0
        for many in range(1, 6):
            for thing in itertools.product(places, repeat=many):
                truth = by_words(NET, thing)
                found += truth
                if is_way(NET, thing) is not truth:
                    self.fail(f"{thing} is told to be {not truth}")
        self.assertGreater(found, 20)


class Legs(unittest.TestCase):
    def told(self, way, told_legs, told_crossings, told_chains):
        self.assertTrue(is_way(NET, way))
        self.assertEqual(legs(NET, way), told_legs)
        self.assertEqual(crossings(NET, way), told_crossings)
        self.assertEqual(line_chains(NET, way), told_chains)

    def test_over_three_lines(self):
        each = [("north", 30), ("south", 70), ("east", 50)]
        self.told(LONG, each, [("selby", "north", "south"), ("crewe", "south", "east")], each)

    def test_the_other_way_about(self):
        each = [("east", 50), ("south", 70), ("north", 30)]
        self.told(LONG[::-1], each, [("crewe", "east", "south"), ("selby", "south", "north")], each)

    def test_two_places(self):
        self.told(("york", "ripon"), [("north", 10)], [], [("north", 10)])

    def test_one_line_only_over_a_junction(self):
        self.told(("york", "selby", "ripon"), [("north", 35)], [], [("north", 35)])
        self.told(("hull", "selby", "crewe", "derby", "leeds"), [("south", 107)], [], [("south", 107)])

    def test_a_line_that_comes_twice(self):
        each = [("south", 30), ("north", 7), ("south", 9)]
        crossed = [("selby", "south", "north"), ("derby", "north", "south")]
        self.told(TWICE, each, crossed, [("south", 39), ("north", 7)])

    def test_a_line_that_comes_twice_the_other_way_about(self):
        each = [("south", 9), ("north", 7), ("south", 30)]
        crossed = [("derby", "south", "north"), ("selby", "north", "south")]
        self.told(TWICE[::-1], each, crossed, [("south", 39), ("north", 7)])

    def test_a_line_twice_with_others_behind(self):
        each = [("north", 15), ("south", 68), ("east", 9999)]
        crossed = [("selby", "north", "south"), ("derby", "south", "east")]
        self.told(("york", "selby", "crewe", "derby", "bath"), each, crossed, each)
        each = [("south", 30), ("north", 7), ("south", 8), ("east", 50)]
        crossed = [("selby", "south", "north"), ("derby", "north", "south"), ("crewe", "south", "east")]
        self.told(("hull", "selby", "derby", "crewe", "bath"), each, crossed, [("south", 38), ("north", 7), ("east", 50)])

    def test_28_places(self):
        net, places = row_net(28)
        told = legs(net, places)
        self.assertEqual(told[0], ("a", sum(range(1, 10))))
        self.assertEqual(told[1:6], [("b", 10), ("a", 11), ("b", 12), ("a", 13), ("b", 14)])
        self.assertEqual(told[-1], ("a", sum(range(19, 28))))
        self.assertEqual(len(told), 11)
        self.assertEqual(crossings(net, places)[:2], [(places[9], "a", "b"), (places[10], "b", "a")])
        self.assertEqual(crossings(net, places)[-1], (places[18], "b", "a"))
        self.assertEqual(line_chains(net, places), [("a", 378 - 70), ("b", 70)])

    def test_the_greatest_chains(self):
        net = (("a",), tuple((name, "a") for name in "pqr"), (), (("p", "q", "a", 9999), ("r", "q", "a", 9999)))
        self.assertEqual(legs(net, ("p", "q", "r")), [("a", 19998)])

    def test_drawn_ways(self):
        chance = random.Random(9)
        found = 0
        while found < 300:
            net = draw_net(chance, chance.randint(2, 5), chance.randint(2, 8), chance.randint(2, 8), 40)
            self.assertTrue(is_net(net))
            way = draw_way(chance, net)
            if way is None:
                continue
            found += 1
            with self.subTest(net=net, way=way):
                self.drawn(net, way)

    def drawn(self, net, way):
        self.assertTrue(is_way(net, way))
        run = [tie_of(net, one, far) for one, far in zip(way, way[1:])]
        groups = [(line, list(ties)) for line, ties in itertools.groupby(run, key=lambda tie: tie[0])]
        told = legs(net, way)
        self.assertEqual(told, [(line, sum(chains for same, chains in ties)) for line, ties in groups])
        places = [way[sum(len(ties) for line, ties in groups[:at])] for at in range(1, len(groups))]
        self.assertEqual(crossings(net, way), [(place, ahead[0], behind[0])
                                               for place, ahead, behind in zip(places, told, told[1:])])
        lines = sorted({line for line, chains in told}, key=[line for line, chains in told].index)
        self.assertEqual(line_chains(net, way), [(line, sum(chains for same, chains in told if same == line))
                                                 for line in lines])
        self.assertEqual(legs(net, way[::-1]), told[::-1])
        self.assertEqual(crossings(net, way[::-1]), [(place, behind, ahead)
                                                     for place, ahead, behind in crossings(net, way)[::-1]])


class HandedIn(unittest.TestCase):
    """Point 2: what is handed in stays, what is told is new and the asker's own."""

    def test_any_thing_is_unchanged_behind_the_call(self):
        things = [list(LONG), [["york"], "ripon"], ("york", ["ripon"]), [[[]]]]
        before = copy.deepcopy(things)
        for thing in things:
            is_way(NET, thing)
        self.assertEqual(things, before)

    def test_a_told_list_is_the_askers_own(self):
        for asked in (legs, crossings, line_chains):
            for way in (LONG, TWICE, ("york", "ripon")):
                with self.subTest(asked.__name__, way=way):
                    told = asked(NET, way)
                    kept = list(told)
                    self.assertIs(type(told), list)
                    self.assertTrue(all(type(one) is tuple for one in told))
                    other = asked(NET, way)
                    told.append(("more", 1))
                    told[0] = ("less", 0)
                    self.assertEqual(other, kept)
                    self.assertEqual(asked(NET, way), kept)

    def test_nothing_asked_later_changes_what_was_told(self):
        told = [asked(NET, LONG) for asked in (legs, crossings, line_chains)]
        kept = copy.deepcopy(told)
        for asked in (legs, crossings, line_chains):
            asked(NET, TWICE)
            asked(NET, LONG[::-1])
        self.assertEqual(told, kept)


if __name__ == "__main__":
    unittest.main()
