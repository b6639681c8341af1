"""Point 21, and points 2 and 3 as far as these functions go."""

import copy
import itertools
import random
import unittest

from samples import draw_net, draw_returns, draw_way, gone
from throughlines.histories import history
from throughlines.losses import bearers, seals
from throughlines.nets import is_net
from throughlines.ways import crossings, is_way, legs

# Lines a to d in a row, and a second junction of a and b.
NET = (
    ("a", "b", "c", "d"),
    (("sa", "a"), ("ta", "a"), ("sb", "b"), ("sd", "d")),
    (("ab", ("a", "b")), ("abx", ("a", "b")), ("bc", ("b", "c")), ("cd", ("c", "d"))),
    (
        ("sa", "ta", "a", 5), ("sa", "ab", "a", 10), ("ab", "bc", "b", 20), ("bc", "cd", "c", 40), ("cd", "sd", "d", 80),
        ("ab", "abx", "b", 7), ("abx", "ta", "a", 3), ("abx", "bc", "b", 9),
    ),
)
# Legs a 10, b 20, c 40, d 80.
WAY = ("sa", "ab", "bc", "cd", "sd")
# Legs a 10, b 7, a 3.
TWICE = ("sa", "ab", "abx", "ta")
ALONE = ("sa", "ta")

WHOLE, BROKEN = "whole", "broken"


def seals_by_words(net, way, day, steps, returns):
    """Point 21's first part, crossing by crossing over the held ones' places."""
    rows = {row[1]: row for row in returns}
    held = [step for step in steps if step[0] == "held"]
    told, taken = [], -1
    for junction, line, onward in crossings(net, way):
        for at in range(taken + 1, len(held)):
            row = rows[held[at][1]]
            if row[4] >= day and row[3] == junction and held[at][2:] == (line, onward):
                told.append(row[9])
                taken = at
                break
        else:
            told.append(None)
    return told


def bearers_by_words(net, way, told):
    """Point 21's second part, leg by leg: borne where a seal whole isn't behind and one broken isn't ahead."""
    run = legs(net, way)
    stop = [at for at, seal in enumerate(told) if seal == BROKEN][:1] or [len(told)]
    ahead = [at for at, seal in enumerate(told) if seal == WHOLE and at < stop[0]][-1:] or [-1]
    found = []
    for at, (line, chains) in enumerate(run):
        if ahead[0] < at <= stop[0]:
            known = [row[0] for row in found]
            if line in known:
                found[known.index(line)][1] += chains
            else:
                found.append([line, chains])
    return [tuple(row) for row in found]


class Seals(unittest.TestCase):
    def told(self, way, day, returns, *wanted, line="a"):
        steps = history(NET, line, returns)[0]
        for order in (returns, returns[::-1]):
            self.assertEqual(seals(NET, way, day, steps, order), list(wanted))
        self.assertEqual(seals_by_words(NET, way, day, steps, returns), list(wanted))

    def test_the_net_here(self):
        self.assertTrue(is_net(NET))
        self.assertTrue(all(is_way(NET, way) for way in (WAY, TWICE, ALONE)))

    def test_no_crossing(self):
        self.told(ALONE, 1, [])
        self.told(ALONE, 1, [gone(1, "ab", "b")])

    def test_no_returns(self):
        self.told(WAY, 1, [], None, None, None)

    def test_each_crossing(self):
        returns = [gone(1, "ab", "b", seal=WHOLE), gone(2, "bc", "c", seal=BROKEN), gone(3, "cd", "d", seal=WHOLE)]
        self.told(WAY, 1, returns, WHOLE, BROKEN, WHOLE)

    def test_the_waybills_day(self):
        returns = [gone(1, "ab", "b", 5, seal=BROKEN), gone(2, "bc", "c", 6, seal=WHOLE), gone(3, "cd", "d", 6)]
        self.told(WAY, 4, returns, BROKEN, WHOLE, WHOLE)
        self.told(WAY, 5, returns, BROKEN, WHOLE, WHOLE)
        self.told(WAY, 6, returns, None, WHOLE, WHOLE)
        self.told(WAY, 7, returns, None, None, None)

    def test_a_seal_ahead_of_the_waybills_day(self):
        # There and back, and there again with the waybill.
        there = [gone(1, "ab", "b", 2, seal=BROKEN), gone(2, "ab", "a", 3), gone(3, "ab", "b", 4, seal=WHOLE)]
        self.told(WAY, 3, there, WHOLE, None, None)
        self.told(WAY, 2, there, BROKEN, None, None)

    def test_a_crossing_without_a_return(self):
        returns = [gone(1, "ab", "b", 1, seal=WHOLE), gone(3, "cd", "d", 3, seal=BROKEN)]
        self.told(WAY, 1, returns, WHOLE, None, BROKEN)
        self.told(WAY, 1, returns[1:] + [gone(4, "cd", "c", 4)], None, None, BROKEN)

    def test_a_gap_ahead_and_from_where_it_went_over(self):
        # Out of the gap it went over from c, as the way does.
        returns = [gone(3, "cd", "d", 3, seal=BROKEN), gone(4, "cd", "c", 4), gone(5, "bc", "b", 5)]
        self.assertEqual(history(NET, "a", returns)[0][0], ("gap", ("a", "b", "c")))
        self.told(WAY, 1, returns, None, None, BROKEN)

    def test_behind_the_last_one_taken(self):
        # The one at bc comes ahead of the one taken at ab, so it isn't taken.
        returns = [gone(1, "bc", "c", 1, seal=BROKEN), gone(2, "bc", "b", 2), gone(3, "ab", "a", 3),
                   gone(4, "ab", "b", 4, seal=WHOLE)]
        self.told(WAY, 1, returns, WHOLE, None, None, line="b")
        self.told(WAY, 1, returns + [gone(5, "bc", "c", 5, seal=WHOLE)], WHOLE, WHOLE, None, line="b")

    def test_behind_a_crossing_without_one_the_last_taken_holds(self):
        # None at bc behind ab, but one at cd ahead of ab.
        returns = [gone(1, "cd", "d", 1, seal=BROKEN), gone(2, "cd", "c", 2), gone(3, "bc", "b", 3),
                   gone(4, "ab", "a", 4), gone(5, "ab", "b", 5, seal=WHOLE)]
        self.told(WAY, 1, returns, WHOLE, None, None, line="c")

    def test_the_same_junction_twice(self):
        returns = [gone(1, "ab", "b", 1, seal=WHOLE), gone(2, "ab", "a", 2, seal=BROKEN),
                   gone(3, "ab", "b", 3, seal=BROKEN), gone(4, "bc", "c", 4, seal=WHOLE)]
        self.told(WAY, 1, returns, WHOLE, WHOLE, None)
        self.told(WAY, 2, returns, BROKEN, WHOLE, None)

    def test_on_one_day_by_the_hour(self):
        returns = [gone(9, "ab", "b", 1, 1, seal=BROKEN), gone(8, "ab", "a", 1, 2), gone(7, "ab", "b", 1, 3)]
        self.told(WAY, 1, returns, BROKEN, None, None)

    def test_the_other_way_about(self):
        returns = [gone(1, "ab", "a", 1, seal=BROKEN), gone(2, "ab", "b", 2, seal=WHOLE)]
        self.told(WAY, 1, returns, WHOLE, None, None, line="b")
        self.told(WAY[::-1], 1, returns, None, None, BROKEN, line="b")

    def test_another_junction_of_the_same_lines(self):
        returns = [gone(1, "abx", "b", 1, seal=BROKEN), gone(2, "bc", "c", 2, seal=WHOLE)]
        self.told(WAY, 1, returns, None, WHOLE, None)

    def test_a_return_put_aside(self):
        returns = [gone(1, "ab", "b", 1, seal=WHOLE), gone(2, "cd", "d", 2, seal=BROKEN), gone(3, "ab", "a", 3)]
        steps = history(NET, "a", returns)[0]
        self.assertIn(("aside", 2), steps)
        self.told(WAY, 1, returns, WHOLE, None, None)

    def test_a_line_twice(self):
        returns = [gone(1, "ab", "b", 1, seal=WHOLE), gone(2, "abx", "a", 2, seal=BROKEN)]
        self.told(TWICE, 1, returns, WHOLE, BROKEN)

    def test_drawn_returns(self):
        chance = random.Random(21)
        found = {WHOLE: 0, BROKEN: 0, None: 0}
        for _ in range(300):
            net = draw_net(chance, chance.randint(2, 5), 4, chance.randint(2, 6), 40)
            way = draw_way(chance, net)
            if way is None:
                continue
            line = legs(net, way)[0][0]
            rows = along(chance, net, way) + draw_returns(chance, net, line, chance.randint(0, 8))
            returns = [(row[0], number) + row[2:] for number, row in enumerate(rows, start=1)]
            steps = history(net, line, returns)[0]
            for day in (1, 2, 4):
                told = seals(net, way, day, steps, returns)
                self.assertEqual(told, seals_by_words(net, way, day, steps, returns))
                for seal in told:
                    found[seal] += 1
        self.assertGreater(min(found.values()), 50)


def along(chance, net, way):
    """Returns of a wagon that goes the way, some of which fell out."""
    rows = [gone(1, junction, onward, 1 + at // 2, at, seal=chance.choice((WHOLE, WHOLE, BROKEN)))
            for at, (junction, line, onward) in enumerate(crossings(net, way))]
    return [row for row in rows if chance.random() < 0.8]


class Bearers(unittest.TestCase):
    def told(self, way, seen, *wanted):
        self.assertEqual(bearers(NET, way, seen), list(wanted))
        self.assertEqual(bearers_by_words(NET, way, seen), list(wanted))

    A, B, C, D = ("a", 10), ("b", 20), ("c", 40), ("d", 80)

    def test_no_crossing(self):
        self.told(ALONE, [], ("a", 5))

    def test_all_whole(self):
        self.told(WAY, [WHOLE, WHOLE, WHOLE], self.D)

    def test_all_none(self):
        self.told(WAY, [None, None, None], self.A, self.B, self.C, self.D)

    def test_broken_first(self):
        for rest in itertools.product((WHOLE, BROKEN, None), repeat=2):
            self.told(WAY, [BROKEN, *rest], self.A)

    def test_broken_behind_whole(self):
        self.told(WAY, [WHOLE, BROKEN, None], self.B)
        self.told(WAY, [WHOLE, WHOLE, BROKEN], self.C)
        self.told(WAY, [WHOLE, None, BROKEN], self.B, self.C)
        self.told(WAY, [None, WHOLE, BROKEN], self.C)

    def test_whole_behind_broken(self):
        self.told(WAY, [None, BROKEN, WHOLE], self.A, self.B)
        self.told(WAY, [WHOLE, BROKEN, WHOLE], self.B)
        self.told(WAY, [BROKEN, WHOLE, WHOLE], self.A)

    def test_broken_twice(self):
        self.told(WAY, [None, BROKEN, BROKEN], self.A, self.B)

    def test_no_broken_one(self):
        self.told(WAY, [WHOLE, None, None], self.B, self.C, self.D)
        self.told(WAY, [None, WHOLE, None], self.C, self.D)
        self.told(WAY, [WHOLE, WHOLE, None], self.C, self.D)

    def test_the_last_one_broken(self):
        self.told(WAY, [None, None, BROKEN], self.A, self.B, self.C)

    def test_a_line_with_two_of_the_legs(self):
        self.told(TWICE, [None, None], ("a", 13), ("b", 7))
        self.told(TWICE, [WHOLE, None], ("b", 7), ("a", 3))
        self.told(TWICE, [None, BROKEN], ("a", 10), ("b", 7))
        self.told(TWICE, [WHOLE, WHOLE], ("a", 3))
        self.told(TWICE, [BROKEN, None], ("a", 10))

    def test_all_seals_of_drawn_ways(self):
        chance = random.Random(210)
        for _ in range(60):
            net = draw_net(chance, chance.randint(2, 5), 4, chance.randint(2, 6), 40)
            way = draw_way(chance, net)
            if way is None or len(crossings(net, way)) > 5:
                continue
            for seen in itertools.product((WHOLE, BROKEN, None), repeat=len(crossings(net, way))):
                told = bearers(net, way, list(seen))
                self.assertEqual(told, bearers_by_words(net, way, seen))
                self.assertTrue(told)
                self.assertEqual(len(told), len({line for line, chains in told}))


class HandedIn(unittest.TestCase):
    """Point 2: what is handed in stays, what is told is new and the asker's own."""

    RETURNS = [gone(3, "cd", "d", seal=BROKEN), gone(1, "ab", "b"), gone(2, "bc", "c")]

    def test_it_is_unchanged_behind_the_call(self):
        steps, returns, seen = history(NET, "a", self.RETURNS)[0], list(self.RETURNS), [WHOLE, None, BROKEN]
        kept = copy.deepcopy((steps, returns, seen))
        seals(NET, WAY, 1, steps, returns)
        bearers(NET, WAY, seen)
        self.assertEqual((steps, returns, seen), kept)

    def test_what_is_told_is_the_askers_own(self):
        steps = history(NET, "a", self.RETURNS)[0]
        for ask in (lambda: seals(NET, WAY, 1, steps, self.RETURNS), lambda: bearers(NET, WAY, [WHOLE, None, BROKEN])):
            told, other = ask(), ask()
            kept = list(told)
            self.assertIs(type(told), list)
            told[0] = "less"
            told.append("more")
            self.assertEqual(other, kept)
            self.assertEqual(ask(), kept)

    def test_what_is_changed_later_changes_nothing_told(self):
        steps, returns, seen = history(NET, "a", self.RETURNS)[0], list(self.RETURNS), [WHOLE, None, BROKEN]
        told = (seals(NET, WAY, 1, steps, returns), bearers(NET, WAY, seen))
        kept = copy.deepcopy(told)
        steps.clear()
        returns.clear()
        seen.clear()
        self.assertEqual(told, kept)


if __name__ == "__main__":
    unittest.main()
