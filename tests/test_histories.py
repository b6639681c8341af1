"""Points 14 to 17, and points 2 and 3 as far as these functions go."""

import copy
import functools
import itertools
import random
import time
import unittest

from samples import ANY_THINGS, RING, ROW, draws, gone, net_of, walk
from throughlines.errors import HouseError, NoProof
from throughlines.histories import gap_road, history, lacking, look_history, perhaps_of
from throughlines.nets import is_net


@functools.lru_cache(maxsize=None)
def all_roads(net, line):
    """Every road of unlike lines that begins with this one."""
    found = [[line]]
    for road in found:
        for far in net[0]:
            if far not in road and any(far in joined and road[-1] in joined for name, joined in net[2]):
                found.append(road + [far])
    return found


@functools.lru_cache(maxsize=None)
def shortest_roads(net, line, junction, over):
    """All shortest roads to any of the junction's other lines, the least first."""
    others = [far for far in dict(net[2])[junction] if far != over]
    roads = [road for road in all_roads(net, line) if road[-1] in others]
    least = min(map(len, roads), default=0)
    return sorted([road for road in roads if len(road) == least])


def lack_of(net, line, row):
    roads = shortest_roads(net, line, row[3], row[7])
    return len(roads[0]) - 1 if roads else None


def by_time(returns):
    return sorted(returns, key=lambda row: (row[4], row[5], row[1]))


def steps_of(net, line, rows, held):
    """The steps of the history that holds just these, and how many are wrong; None where it can't."""
    steps, wrong = [], 0
    for row, is_held in zip(rows, held):
        if not is_held:
            steps.append(("aside", row[1]))
            wrong += 1
            continue
        roads = shortest_roads(net, line, row[3], row[7])
        if not roads:
            return None
        if len(roads[0]) > 1:
            steps.append(("gap", tuple(roads[0])))
        steps.append(("held", row[1], roads[0][-1], row[7]))
        wrong += len(roads[0]) - 1
        line = row[7]
    return steps, wrong


def best_of(net, line, returns):
    """The steps and the wrong returns of the history to be told, by trying all."""
    rows = by_time(returns)
    # The ones that hold the earlier returns come first, and min takes the first of the least.
    tried = [steps_of(net, line, rows, held) for held in itertools.product((True, False), repeat=len(rows))]
    return min([told for told in tried if told is not None], key=lambda told: told[1])


def wrong_in(steps):
    return sum(1 if step[0] == "aside" else len(step[1]) - 1 for step in steps if step[0] != "held")


def mark_bounds(net, line, rows, marks):
    """For each mark the most that it may be by those ahead of it, None where there is no bound."""
    lines = [line] + [row[7] for row in rows]
    told = [0] + list(marks)
    found = []
    for at in range(1, len(told)):
        lacks = [(last, lack_of(net, lines[last], rows[at - 1])) for last in range(at)]
        most = [told[last] + at - last - 1 + lack for last, lack in lacks if lack is not None]
        found.append(min(most) if most else None)
    return found


def most_let(marks):
    return min(mark + len(marks) - at for at, mark in enumerate([0] + list(marks)))


def is_int(thing):
    return type(thing) is int


def all_steps(net, line, rows):
    """A function that tells whether steps are a history by its form, seen from the front."""
    def fits(line, rows, steps):
        if not rows:
            return not steps
        row, roads = rows[0], shortest_roads(net, line, rows[0][3], rows[0][7])
        if steps and type(steps[0]) is tuple and repr(steps[0]) == repr(("aside", row[1])):
            return fits(line, rows[1:], steps[1:])
        for road in roads:
            told = [] if len(road) == 1 else [("gap", tuple(road))]
            told.append(("held", row[1], road[-1], row[7]))
            if repr(steps[:len(told)]) == repr(told):
                return fits(row[7], rows[1:], steps[len(told):])
        return False
    return lambda steps: fits(line, rows, steps)


def look_by_words(net, line, returns, thing):
    """The fault by point 16's words, None where it is let by."""
    if type(thing) is not tuple or len(thing) != 2 or type(thing[0]) is not list or type(thing[1]) is not list:
        return "paper"
    rows = by_time(returns)
    if not all_steps(net, line, rows)(thing[0]):
        return "steps"
    if len(thing[1]) != len(rows) or not all(map(is_int, thing[1])):
        return "marks"
    if any(most is not None and mark > most for mark, most in zip(thing[1], mark_bounds(net, line, rows, thing[1]))):
        return "marks"
    return "many" if wrong_in(thing[0]) > most_let(thing[1]) else None


class Lacking(unittest.TestCase):
    def told(self, net, line, junction, over, *roads):
        """The least of the roads is told, and as many lack as its steps."""
        self.assertEqual(gap_road(net, line, junction, over), list(roads[0]) if roads else [])
        told = lacking(net, line, junction, over)
        if roads:
            self.assertEqual(told, len(roads[0]) - 1)
            self.assertIs(type(told), int)
        else:
            self.assertIsNone(told)

    def test_the_nets_here(self):
        self.assertTrue(is_net(ROW) and is_net(RING))

    def test_none_lacks(self):
        self.told(ROW, "a", "ab", "b", "a")
        self.told(ROW, "b", "ab", "a", "b")
        self.told(ROW, "d", "de", "e", "d")

    def test_one_lacks(self):
        self.told(ROW, "a", "bc", "c", "ab")
        self.told(ROW, "c", "ab", "a", "cb")
        self.told(ROW, "e", "cd", "c", "ed")

    def test_several_lack(self):
        self.told(ROW, "a", "cd", "d", "abc")
        self.told(ROW, "a", "de", "e", "abcd")
        self.told(ROW, "a", "de", "d", "abcde")
        self.told(ROW, "e", "ab", "b", "edcba")

    def test_over_to_the_line_on_which_it_is(self):
        self.told(ROW, "a", "ab", "a", "ab")
        self.told(ROW, "b", "ab", "b", "ba")
        self.told(ROW, "b", "bc", "b", "bc")
        self.told(net_of("abc", "abc"), "b", "abc", "b", "ba")

    def test_over_to_a_line_that_lies_between(self):
        self.told(ROW, "a", "bc", "b", "abc")

    def test_no_road_at_all(self):
        for line, junction, over in (("a", "fg", "g"), ("e", "fg", "f"), ("f", "ab", "a"), ("g", "de", "e"),
                                     ("h", "ab", "b"), ("h", "fg", "f")):
            self.told(ROW, line, junction, over)
        self.told(ROW, "f", "fg", "g", "f")

    def test_the_least_of_several_shortest(self):
        self.told(RING, "a", "de", "e", "abcd")
        self.told(RING, "a", "cd", "c", "abcd")
        self.told(net_of("abcde", "ab", "ac", "bd", "cd", "de"), "a", "de", "e", "abd")
        # The names as texts, not in the net's order.
        self.told(net_of("zyxwv", "zy", "zx", "yw", "xw", "wv"), "z", "wv", "v", "zxw")

    def test_the_shortest_ahead_of_the_least(self):
        self.told(net_of("abcdz", "ab", "bc", "az", "cdz"), "a", "cdz", "d", "az")

    def test_the_least_road_not_the_least_end(self):
        # To c by g and to d by b: the second road is the lesser one.
        self.told(net_of("abcdeg", "ag", "cg", "ab", "bd", "cde"), "a", "cde", "e", "abd")

    def test_a_junction_of_three_lines_and_more(self):
        star = net_of("abcdef", "abcde", "ef")
        for line in "abcde":
            for over in "abcde":
                self.told(star, line, "abcde", over, line if line != over else line + ("a" if line != "a" else "b"))
        self.told(star, "f", "abcde", "a", "fe")
        self.told(star, "f", "abcde", "e", "fea")
        self.told(star, "a", "ef", "f", "ae")
        self.told(star, "a", "ef", "e", "aef")

    def test_all_of_drawn_nets(self):
        for chance, net, line, returns in draws(14, 60, 0):
            for line, (junction, joined) in itertools.product(net[0], net[2]):
                for over in joined:
                    with self.subTest(net=net, line=line, junction=junction, over=over):
                        self.told(net, line, junction, over, *shortest_roads(net, line, junction, over))

    def test_things_that_are_no_lines_raise_nothing(self):
        for thing in ANY_THINGS:
            if thing != "a":
                self.told(ROW, thing, "ab", "b")
            self.told(ROW, "a", thing, "b")

    def test_over_to_a_line_that_the_junction_has_not(self):
        self.told(ROW, "a", "ab", "c")
        self.told(ROW, "a", "bc", "none")

    def test_a_told_road_is_the_askers_own(self):
        for asked in (("a", "ab", "b"), ("a", "de", "e"), ("a", "fg", "g")):
            told, other = gap_road(ROW, *asked), gap_road(ROW, *asked)
            kept = list(told)
            self.assertIs(type(told), list)
            told.append("more")
            told[0] = "less"
            self.assertEqual(other, kept)
            self.assertEqual(gap_road(ROW, *asked), kept)


class History(unittest.TestCase):
    def told(self, net, line, returns, *steps):
        told = history(net, line, returns)
        self.assertIs(type(told), tuple)
        self.assertEqual(len(told), 2)
        self.assertEqual(told[0], list(steps))
        self.marks_show_it(net, line, returns, told)
        self.assertEqual(best_of(net, line, returns)[0], list(steps))

    def marks_show_it(self, net, line, returns, told):
        steps, marks = told
        self.assertIs(type(steps), list)
        self.assertIs(type(marks), list)
        self.assertEqual(len(marks), len(returns))
        self.assertTrue(all(map(is_int, marks)))
        for mark, most in zip(marks, mark_bounds(net, line, by_time(returns), marks)):
            self.assertTrue(most is None or mark <= most)
        self.assertEqual(wrong_in(steps), most_let(marks))
        self.assertIsNone(look_history(net, line, returns, told))

    def test_no_returns(self):
        self.assertEqual(history(ROW, "a", []), ([], []))
        self.told(ROW, "h", [])

    def test_one_return(self):
        self.told(ROW, "a", walk("ab:b"), ("held", 1, "a", "b"))

    def test_a_whole_true_walk(self):
        returns = walk("ab:b", "bc:c", "cd:d", "cd:c", "bc:b", "ab:a")
        self.told(ROW, "a", returns, ("held", 1, "a", "b"), ("held", 2, "b", "c"), ("held", 3, "c", "d"),
                  ("held", 4, "d", "c"), ("held", 5, "c", "b"), ("held", 6, "b", "a"))

    def test_a_return_that_fell_out(self):
        returns = walk("ab:b", "bc:c", "cd:d", "de:e", "de:d")
        del returns[1]
        self.told(ROW, "a", returns, ("held", 1, "a", "b"), ("gap", ("b", "c")), ("held", 3, "c", "d"),
                  ("held", 4, "d", "e"), ("held", 5, "e", "d"))

    def test_two_that_fell_out(self):
        returns = walk("ab:b", "bc:c", "cd:d", "de:e", "de:d", "cd:c", "cd:d")
        self.told(ROW, "a", returns[:1] + returns[3:], ("held", 1, "a", "b"), ("gap", ("b", "c", "d")),
                  ("held", 4, "d", "e"), ("held", 5, "e", "d"), ("held", 6, "d", "c"), ("held", 7, "c", "d"))

    def test_the_first_fell_out(self):
        returns = walk("ab:b", "bc:c", "cd:d", "cd:c")
        self.told(ROW, "a", returns[1:], ("gap", ("a", "b")), ("held", 2, "b", "c"), ("held", 3, "c", "d"),
                  ("held", 4, "d", "c"))

    def test_a_misread_return(self):
        returns = walk("ab:b", "de:e", "bc:c", "bc:b")
        self.told(ROW, "a", returns, ("held", 1, "a", "b"), ("aside", 2), ("held", 3, "b", "c"), ("held", 4, "c", "b"))

    def test_misread_ones_first_and_last(self):
        returns = walk("de:d", "ab:b", "bc:c", "ab:b")
        self.told(ROW, "a", returns, ("aside", 1), ("held", 2, "a", "b"), ("held", 3, "b", "c"), ("aside", 4))

    def test_a_return_that_cannot_follow(self):
        self.told(ROW, "a", walk("fg:g"), ("aside", 1))
        self.told(ROW, "h", walk("fg:g", "ab:b"), ("aside", 1), ("aside", 2))
        returns = walk("ab:b", "fg:g", "fg:f", "ab:a")
        self.told(ROW, "a", returns, ("held", 1, "a", "b"), ("aside", 2), ("aside", 3), ("held", 4, "b", "a"))
        self.told(ROW, "f", returns, ("aside", 1), ("held", 2, "f", "g"), ("held", 3, "g", "f"), ("aside", 4))

    def test_a_gap_or_an_aside_the_first_is_held(self):
        # One wrong in any case: a gap ahead of it, or it put aside.
        self.told(ROW, "a", walk("bc:c"), ("gap", ("a", "b")), ("held", 1, "b", "c"))
        self.told(ROW, "a", walk("cd:d"), ("aside", 1))

    def test_of_the_fewest_the_one_that_holds_the_earlier(self):
        # Of two returns alike but for the number either one may be put aside, or a gap lies between.
        returns = walk("ab:b", "ab:b")
        self.told(ROW, "a", returns, ("held", 1, "a", "b"), ("gap", ("b", "a")), ("held", 2, "a", "b"))
        # The first held leads to a misread second one as well as to a misread first one.
        returns = walk("bc:c", "ab:b")
        self.told(ROW, "b", returns, ("held", 1, "b", "c"), ("aside", 2))
        returns = walk("ab:b", "af:f", "bc:c", "ef:e")
        self.told(RING, "a", returns, ("held", 1, "a", "b"), ("gap", ("b", "a")), ("held", 2, "a", "f"),
                  ("aside", 3), ("held", 4, "f", "e"))

    def test_a_later_one_where_that_has_fewer(self):
        returns = walk("bc:c", "ef:e", "de:d")
        self.told(RING, "a", returns, ("aside", 1), ("gap", ("a", "f")), ("held", 2, "f", "e"), ("held", 3, "e", "d"))

    def test_in_order_by_day_hour_and_number(self):
        by_day = [gone(3, "ab", "b", 1, 23), gone(2, "bc", "c", 2, 5), gone(1, "cd", "d", 10, 0)]
        by_hour = [gone(3, "ab", "b", 7, 2), gone(2, "bc", "c", 7, 10), gone(1, "cd", "d", 7, 11)]
        by_number = [gone(9, "ab", "b", 7, 2), gone(10, "bc", "c", 7, 2), gone(100, "cd", "d", 7, 2)]
        for rows in (by_day, by_hour, by_number):
            first, second, third = [row[1] for row in rows]
            for order in itertools.permutations(rows):
                self.told(ROW, "a", list(order), ("held", first, "a", "b"), ("held", second, "b", "c"),
                          ("held", third, "c", "d"))

    def test_the_edition_does_not_matter(self):
        rows = [row[:2] + (edition,) + row[3:] for row, edition in zip(walk("ab:b", "bc:c"), (99, 1))]
        self.told(ROW, "a", rows, ("held", 1, "a", "b"), ("held", 2, "b", "c"))

    def test_the_least_road_of_a_gap(self):
        net = net_of("acdbe", "ac", "ab", "cd", "db", "de")
        returns = walk("de:e", "de:d", "de:e", "de:d")
        self.told(net, "a", returns, ("gap", ("a", "b", "d")), ("held", 1, "d", "e"), ("held", 2, "e", "d"),
                  ("held", 3, "d", "e"), ("held", 4, "e", "d"))

    def test_a_junction_of_three_lines(self):
        net = net_of("abcd", "abc", "cd")
        returns = walk("abc:c", "cd:d", "abc:a", "abc:a", "abc:b")
        self.told(net, "b", returns, ("held", 1, "b", "c"), ("held", 2, "c", "d"), ("gap", ("d", "c")),
                  ("held", 3, "c", "a"), ("gap", ("a", "b")), ("held", 4, "b", "a"), ("held", 5, "a", "b"))

    def test_all_histories_of_drawn_returns(self):
        for chance, net, line, returns in draws(15, 250, 8):
            with self.subTest(net=net, line=line, returns=returns):
                told = history(net, line, returns)
                self.assertEqual(told[0], best_of(net, line, returns)[0])
                self.marks_show_it(net, line, returns, told)

    def test_any_order_of_drawn_returns(self):
        for chance, net, line, returns in draws(16, 60, 30):
            told = history(net, line, returns)
            for _ in range(3):
                chance.shuffle(returns)
                self.assertEqual(history(net, line, returns), told)

    def test_a_hundred_returns_within_seconds(self):
        chance = random.Random(17)
        for joined in (2, 3, 8):
            lines = tuple("abcdefgh")
            junctions = tuple(("j" + name, tuple(sorted(chance.sample(lines, joined)))) for name in "abcdefghijkl")
            net = (lines, (), junctions, ())
            self.assertTrue(is_net(net))
            for many in (99, 100, 100):
                returns = [gone(number, name, chance.choice(near), chance.randint(1, 40), chance.randint(0, 23))
                           for number, (name, near) in enumerate([chance.choice(junctions) for _ in range(many)], start=1)]
                begun = time.monotonic()
                told = history(net, "a", returns)
                look_history(net, "a", returns, told)
                self.assertLess(time.monotonic() - begun, 3)
                self.marks_show_it(net, "a", returns, told)
                self.assertLess(wrong_in(told[0]), 100)

    def test_a_hundred_returns_of_a_true_walk(self):
        returns = [gone(number, "ab", "b" if number & 1 else "a", (number + 3) // 4) for number in range(1, 101)]
        steps, marks = history(ROW, "a", returns[::-1])
        self.assertEqual(steps, [("held", number, "a", "b") if number & 1 else ("held", number, "b", "a")
                                 for number in range(1, 101)])
        self.assertEqual(most_let(marks), 0)


class LookHistory(unittest.TestCase):
    # Held, a gap, held, aside, held, by its marks; two are wrong.
    RETURNS = walk("ab:b", "cd:d", "ab:b", "de:e")
    STEPS = [("held", 1, "a", "b"), ("gap", ("b", "c")), ("held", 2, "c", "d"), ("aside", 3), ("held", 4, "d", "e")]

    def refused(self, where, thing, net=ROW, line="a", returns=None):
        returns = self.RETURNS if returns is None else returns
        self.assertEqual(look_by_words(net, line, returns, thing), where)
        with self.assertRaises(NoProof, msg=repr(thing)[:200]) as caught:
            look_history(net, line, returns, thing)
        self.assertEqual(caught.exception.where, where)
        self.assertIs(type(caught.exception.where), str)
        self.assertIsInstance(caught.exception, HouseError)

    def let_by(self, thing, net=ROW, line="a", returns=None):
        returns = self.RETURNS if returns is None else returns
        self.assertIsNone(look_by_words(net, line, returns, thing))
        self.assertIsNone(look_history(net, line, returns, thing))

    def marks(self):
        return history(ROW, "a", self.RETURNS)[1]

    def test_told_ones_are_let_by(self):
        self.assertEqual(history(ROW, "a", self.RETURNS)[0], self.STEPS)
        self.let_by(history(ROW, "a", self.RETURNS))
        self.let_by(history(ROW, "a", self.RETURNS), returns=self.RETURNS[::-1])
        self.let_by(([], []), returns=[])
        for chance, net, line, returns in draws(18, 60, 25):
            self.let_by(history(net, line, returns), net, line, returns)

    def test_another_history_of_as_few(self):
        # Put aside in place of the gap, which would be told.
        returns = walk("bc:c")
        self.let_by(([("aside", 1)], history(ROW, "a", returns)[1]), returns=returns)
        self.let_by(([("gap", ("a", "b")), ("held", 1, "b", "c")], [1]), returns=returns)
        self.refused("many", ([("aside", 1)], [0]), returns=returns)

    def test_other_shortest_roads_of_a_gap(self):
        net = net_of("abcde", "ab", "ac", "bd", "cd", "de")
        returns = walk("de:e", "de:d", "de:e")
        steps, marks = history(net, "a", returns)
        self.assertEqual(steps[0], ("gap", ("a", "b", "d")))
        self.let_by(([("gap", ("a", "c", "d"))] + steps[1:], marks), net, "a", returns)
        self.refused("steps", ([("gap", ("a", "e", "d"))] + steps[1:], marks), net, "a", returns)
        self.refused("steps", ([("gap", ("a", "d", "d"))] + steps[1:], marks), net, "a", returns)
        self.refused("steps", ([("gap", ("a", "a", "d"))] + steps[1:], marks), net, "a", returns)

    def test_a_gap_that_ends_at_another_of_the_junctions_lines(self):
        net = net_of("abcde", "ab", "ac", "bcde")
        returns = walk("bcde:d", "bcde:e", "bcde:d")
        steps, marks = history(net, "a", returns)
        self.assertEqual(steps[:2], [("gap", ("a", "b")), ("held", 1, "b", "d")])
        self.let_by(([("gap", ("a", "c")), ("held", 1, "c", "d")] + steps[2:], marks), net, "a", returns)
        self.refused("steps", ([("gap", ("a", "c")), ("held", 1, "b", "d")] + steps[2:], marks), net, "a", returns)
        self.refused("steps", ([("gap", ("a", "b")), ("held", 1, "c", "d")] + steps[2:], marks), net, "a", returns)
        self.refused("steps", ([("gap", ("a", "b", "c")), ("held", 1, "c", "d")] + steps[2:], marks), net, "a", returns)
        # Two steps to e are a road, but none of the shortest; d is the line to which it went over.
        self.refused("steps", ([("gap", ("a", "b", "e")), ("held", 1, "e", "d")] + steps[2:], marks), net, "a", returns)
        self.refused("steps", ([("gap", ("a", "d")), ("held", 1, "d", "d")] + steps[2:], marks), net, "a", returns)

    def test_other_marks_that_still_show_it(self):
        # How many are wrong at least when the return is held last; the third may be less.
        self.let_by((self.STEPS, [0, 1, 2, 2]))
        self.let_by((self.STEPS, [0, 1, 1, 2]))
        self.let_by((self.STEPS, self.marks()))

    def test_marks_below_0(self):
        returns = walk("de:e", "ab:b", "ab:a", "ab:b", "ab:a", "ab:b")
        steps = [("aside", 1)] + [("held", at, *("ab", "ba")[at & 1]) for at in range(2, 7)]
        for mark in range(-3, 4):
            self.let_by((steps, [mark, 1, 1, 1, 1, 1]), returns=returns)
        self.refused("marks", (steps, [4, 1, 1, 1, 1, 1]), returns=returns)
        self.refused("marks", (steps, [-4, 1, 1, 1, 1, 1]), returns=returns)

    def test_any_size_of_marks(self):
        # Returns that can't follow have no bound.
        returns = walk("fg:g", "ab:b")
        for mark in (1, 2, 10 ** 60, 10 ** 100):
            self.let_by(([("aside", 1), ("held", 2, "a", "b")], [mark, 1]), returns=returns)
        self.refused("many", ([("aside", 1), ("held", 2, "a", "b")], [-1, 1]), returns=returns)
        for mark in (-(10 ** 59), -(10 ** 100)):
            self.refused("many", (self.STEPS, [mark] * 4))
        for mark in (10 ** 59, 10 ** 100):
            self.refused("marks", (self.STEPS, [mark] * 4))

    def test_paper(self):
        steps, marks = self.STEPS, self.marks()
        for thing in (
            [steps, marks], (steps,), (marks,), (), (steps, marks, []), (steps, marks, None), (tuple(steps), marks),
            (steps, tuple(marks)), (tuple(steps), tuple(marks)), (None, marks), (steps, None), ("", marks), (steps, 0),
            ((steps, marks),), [(steps, marks)], steps, marks,
        ):
            self.refused("paper", thing)

    def test_paper_of_any_things(self):
        for thing in ANY_THINGS:
            self.refused("paper", thing)
            if not isinstance(thing, list):
                self.refused("paper", (thing, self.marks()))
                self.refused("paper", (self.STEPS, thing))
                self.refused("paper", (thing, thing))
            self.refused("paper", (self.STEPS, self.marks(), thing))

    def steps_refused(self, *rows):
        for steps in rows:
            self.refused("steps", (list(steps), self.marks()))

    def test_steps_left_out_put_in_or_in_another_order(self):
        steps = self.STEPS
        self.steps_refused([])
        for at in range(len(steps)):
            self.steps_refused(steps[:at] + steps[at + 1:], steps[:at] + [steps[at]] * 2 + steps[at + 1:], steps[:at])
            for other in range(at):
                swapped = list(steps)
                swapped[at], swapped[other] = swapped[other], swapped[at]
                self.steps_refused(swapped)
        for at in range(len(steps) + 1):
            for more in (("aside", 5), ("aside", 1), ("aside", 4), ("held", 5, "a", "b"), ("gap", ("a",)), ("gap", ()),
                         ("gap", ("a", "b")), ("gap", ("d", "c")), ("gap", ("b",)), ("gap", ("d",))):
                self.steps_refused(steps[:at] + [more] + steps[at:])

    def test_steps_with_any_thing_in_them(self):
        for at, step in enumerate(self.STEPS):
            others = [list(step), step[:-1], step + step[-1:], step + ("more",), (step,), [step]]
            for inner in range(len(step)):
                others += [step[:inner] + (thing,) + step[inner + 1:] for thing in ANY_THINGS if thing != step[inner]]
            for thing in list(ANY_THINGS) + others:
                self.steps_refused(self.STEPS[:at] + [thing] + self.STEPS[at + 1:])

    def test_truths_among_the_numbers(self):
        steps = [("held", True, "a", "b")] + self.STEPS[1:]
        self.assertEqual(steps, self.STEPS)
        self.steps_refused(steps)
        returns = walk("fg:g")
        self.refused("steps", ([("aside", True)], [1]), returns=returns)
        self.refused("marks", ([("aside", 1)], [True]), returns=returns)
        self.refused("marks", ([("aside", 1)], [False]), returns=returns)
        self.let_by(([("aside", 1)], [1]), returns=returns)

    def test_a_gaps_road(self):
        for road in (("b",), ("b", "b"), ("b", "a"), ("c", "c"), ("b", "c", "c"), ("b", "c", "d"), ("a", "b", "c"),
                     ("b", "a", "b", "c"), ("b", "d"), ("b", "none"), ("b", None), (None, "c"), ("b", ["c"]), ["b", "c"],
                     (), "bc", ("bc",), (("b", "c"),)):
            self.steps_refused(self.STEPS[:1] + [("gap", road)] + self.STEPS[2:])
        self.steps_refused(self.STEPS[:1] + [("gap", ("b", "a")), ("held", 2, "a", "d")] + self.STEPS[3:],
                           self.STEPS[:1] + [("gap", ("b", "d")), ("held", 2, "d", "d")] + self.STEPS[3:])

    def test_a_gap_where_none_lacks(self):
        self.steps_refused([("gap", ("a",))] + self.STEPS, [("gap", ("a", "b")), ("held", 1, "b", "b")] + self.STEPS[1:])

    def test_no_gap_where_some_lack(self):
        self.steps_refused(self.STEPS[:1] + self.STEPS[2:], self.STEPS[:1] + [("held", 2, "b", "d")] + self.STEPS[3:])

    def test_a_gap_not_right_ahead_of_the_held_one(self):
        self.steps_refused(self.STEPS + [("gap", ("e", "d"))], self.STEPS[:3] + [("gap", ("d", "c"))] + self.STEPS[3:])
        returns = walk("fg:g", "bc:c")
        steps = [("aside", 1), ("gap", ("a", "b")), ("held", 2, "b", "c")]
        self.let_by((steps, [2, 2]), returns=returns)
        self.refused("steps", ([steps[1], steps[0], steps[2]], [2, 2]), returns=returns)

    def test_a_held_ones_lines(self):
        for line, over in (("b", "b"), ("a", "a"), ("c", "b"), ("a", "c"), ("b", "a")):
            self.steps_refused([("held", 1, line, over)] + self.STEPS[1:])

    def test_a_held_one_that_cannot_follow(self):
        returns = walk("fg:g")
        for steps in ([("held", 1, "f", "g")], [("gap", ("a", "f")), ("held", 1, "f", "g")],
                      [("gap", ()), ("held", 1, "f", "g")], [("gap", ("f",)), ("held", 1, "f", "g")]):
            self.refused("steps", (steps, [1]), returns=returns)

    def test_no_returns(self):
        self.refused("steps", ([("aside", 1)], []), returns=[])
        self.refused("steps", ([("gap", ("a",))], []), returns=[])
        self.refused("marks", ([], [0]), returns=[])

    def test_the_owners_line(self):
        self.refused("steps", (self.STEPS, self.marks()), line="b")
        self.refused("steps", (self.STEPS, self.marks()), line="h")

    def test_marks_of_another_number(self):
        marks = self.marks()
        for other in ([], marks[:-1], marks[1:], marks + [-100], [-100] + marks, marks * 2):
            self.refused("marks", (self.STEPS, other))

    def test_any_things_among_the_marks(self):
        for at, mark in enumerate(self.marks()):
            for thing in ANY_THINGS:
                if is_int(thing) and thing < 0:
                    continue
                if not is_int(thing) or thing > 3:
                    marks = self.marks()
                    marks[at] = thing
                    self.refused("marks", (self.STEPS, marks))

    def test_a_mark_that_is_a_penny_too_great(self):
        most = [0, 1, 2, 2]
        self.let_by((self.STEPS, most))
        bounds = mark_bounds(ROW, "a", self.RETURNS, most)
        for at in range(4):
            marks = list(most)
            marks[at] = bounds[at] + 1
            self.refused("marks", (self.STEPS, marks))

    def test_a_mark_bounded_by_one_far_ahead(self):
        # From the owner's line none lacks at the last one; those between are far away.
        returns = walk("de:d", "de:d", "ab:b")
        steps = [("aside", 1), ("aside", 2), ("held", 3, "a", "b")]
        self.let_by((steps, [4, 5, 2]), returns=returns)
        self.refused("marks", (steps, [4, 5, 3]), returns=returns)
        self.refused("marks", (steps, [5, 5, 2]), returns=returns)

    def test_many_wrong_ones(self):
        marks = self.marks()
        for steps in ([("aside", 1), ("aside", 2), ("aside", 3), ("aside", 4)],
                      [("held", 1, "a", "b"), ("aside", 2), ("aside", 3), ("aside", 4)],
                      self.STEPS[:4] + [("aside", 4)]):
            self.refused("many", (steps, marks))

    def test_more_wrong_ones_than_returns(self):
        # The mark lets two, but none may have more than one of one return: it could be put aside.
        returns = walk("cd:d")
        steps = [("gap", ("a", "b", "c")), ("held", 1, "c", "d")]
        self.refused("many", (steps, [2]), returns=returns)
        self.let_by(([("aside", 1)], [2]), returns=returns)

    def test_marks_that_let_fewer(self):
        for marks in ([0, 1, 1, 1], [0, 1, 0, 2], [0, -1, 1, 0], [-2, -1, -1, 0], [0, 0, 0, 0], [-1, -1, -1, -1]):
            self.refused("many", (self.STEPS, marks))

    def test_the_first_of_two_faults(self):
        steps, marks = self.STEPS, self.marks()
        bad_steps = steps[:-1]
        self.refused("paper", [bad_steps, marks[:-1]])
        self.refused("paper", (bad_steps, None))
        self.refused("paper", (None, [None]))
        self.refused("steps", (bad_steps, marks[:-1]))
        self.refused("steps", (bad_steps, [None] * 4))
        self.refused("steps", (bad_steps, [-9] * 4))
        all_aside = [("aside", number) for number in (1, 2, 3, 4)]
        self.refused("marks", (all_aside, [9] * 4))
        self.refused("marks", (all_aside, [True] + [-9] * 3))
        self.refused("many", (all_aside, marks))

    def test_drawn_things_put_otherwise(self):
        found = dict.fromkeys(("steps", "marks", "many", None), 0)
        for chance, net, line, returns in draws(19, 250, 6):
            for _ in range(6):
                steps, marks = history(net, line, returns)
                for _ in range(chance.choice((1, 1, 2))):
                    self.spoil(chance, net, steps, marks)
                where = look_by_words(net, line, returns, (steps, marks))
                found[where] += 1
                with self.subTest(net=net, line=line, returns=returns, thing=(steps, marks)):
                    if where is None:
                        self.let_by((steps, marks), net, line, returns)
                    else:
                        self.refused(where, (steps, marks), net, line, returns)
        self.assertGreater(min(found.values()), 20)

    def spoil(self, chance, net, steps, marks):
        """Something in them put otherwise, left out or put in."""
        if marks and chance.random() < 0.5:
            at = chance.randrange(len(marks))
            marks[at] += chance.choice((-2, -1, 1, 2))
        elif marks and chance.random() < 0.05:
            marks.append(marks.pop(0))
        elif steps:
            at = chance.randrange(len(steps))
            number = steps[at][1] if steps[at][0] != "gap" else chance.choice((1, 2))
            steps[at:at + chance.choice((0, 1, 1, 1))] = chance.choice((
                [], [("aside", number)], [("held", number, chance.choice(net[0]), chance.choice(net[0]))],
                [("gap", tuple(chance.sample(net[0], 2)))], [("gap", tuple(chance.sample(net[0], 2))), steps[at]],
            ))


class PerhapsOf(unittest.TestCase):
    WAGONS = [(34, "a"), (1134, "a"), (1234, "a"), (1235, "b"), (1244, "a"), (2134, "a"), (5678, "a")]

    def perhaps(self, wagon, own, stray=("ab", "b"), wagons=None):
        """Of a return of that wagon's number, those of which it perhaps is, each having these returns."""
        wagons = self.WAGONS if wagons is None else wagons
        paper = gone(5, *stray, wagon=wagon)
        returns = [gone(100 * at + row[1] * 10, row[3], row[7], wagon=number, day=row[4])
                   for at, (number, line) in enumerate(wagons, start=1) for row in own]
        told = perhaps_of(ROW, wagons, [paper] + returns, paper)
        self.assertIs(type(told), list)
        for order in (returns + [paper], [paper] + returns[::-1]):
            self.assertEqual(perhaps_of(ROW, wagons, order, paper), told)
        return told

    # On day 6 it is at bc, so one lacks ahead of it: the one of day 5 at ab.
    OWN = [gone(6, "bc", "c", day=6)]

    def test_unlike_in_just_one_figure(self):
        self.assertEqual(self.perhaps(1234, self.OWN), [1134, 1244])
        self.assertEqual(self.perhaps(1134, self.OWN), [1234, 2134])
        self.assertEqual(self.perhaps(1334, self.OWN), [1134, 1234])

    def test_unlike_in_none(self):
        self.assertEqual(self.perhaps(1234, self.OWN, wagons=[(1234, "a")]), [])

    def test_unlike_in_two(self):
        self.assertEqual(self.perhaps(1234, self.OWN, wagons=[(1243, "a"), (2134, "a"), (4321, "a")]), [])

    def test_each_figure(self):
        for number in (2234, 1134, 1244, 1235, 234, 1034, 1204, 1230, 9234, 1934, 1294, 1239):
            self.assertEqual(self.perhaps(1234, self.OWN, wagons=[(number, "a")]), [number])

    def test_noughts_ahead(self):
        for wagon, number in ((34, 1034), (1034, 34), (4, 14), (14, 4), (4, 3004), (3004, 4), (9, 8), (99, 9), (999, 9999)):
            self.assertEqual(self.perhaps(wagon, self.OWN, wagons=[(number, "a")]), [number])
        for wagon, number in ((34, 341), (34, 340), (1, 10), (10, 1), (12, 123), (1, 1100), (999, 9990)):
            self.assertEqual(self.perhaps(wagon, self.OWN, wagons=[(number, "a")]), [])

    def test_a_history_that_is_not_better_by_it(self):
        # None lacks: it could only be held beside, or put aside.
        self.assertEqual(self.perhaps(1234, []), [])
        self.assertEqual(self.perhaps(1234, [gone(4, "ab", "b", day=4), gone(6, "ab", "a", day=6)]), [])
        # As many are wrong: one lacks ahead of it and none behind.
        self.assertEqual(self.perhaps(1234, self.OWN, wagons=[(1235, "b")]), [])
        self.assertEqual(self.perhaps(1234, [gone(6, "cd", "d", day=6)], wagons=[(1235, "a")]), [])

    def test_a_return_too_late_or_too_early(self):
        self.assertEqual(self.perhaps(1234, [gone(4, "bc", "c", day=4)]), [])
        self.assertEqual(self.perhaps(1234, [gone(6, "bc", "c", day=6)]), [1134, 1244])

    def test_two_lack_and_one_is_found(self):
        own = [gone(6, "cd", "d", day=6), gone(7, "de", "e", day=7), gone(8, "de", "d", day=8)]
        self.assertEqual(self.perhaps(1234, own, ("ab", "b")), [1134, 1244])
        self.assertEqual(self.perhaps(1234, own, ("bc", "c")), [1134, 1235, 1244])
        self.assertEqual(self.perhaps(1234, own, ("cd", "c")), [])

    def test_what_comes_behind_tells_whether_it_is_better(self):
        # At cd it would lead to de, which is put aside without it; but then it is at bc again.
        own = [gone(2, "ab", "b", day=2), gone(3, "bc", "c", day=3), gone(6, "de", "e", day=6), gone(7, "bc", "b", day=7)]
        self.assertIn(("aside", 6), history(ROW, "a", own)[0])
        self.assertEqual(self.perhaps(1244, own, ("cd", "d"), wagons=[(1234, "a")]), [])
        own[3:] = [gone(8, "cd", "c", day=8), gone(9, "bc", "b", day=9)]
        self.assertEqual(self.perhaps(1244, own, ("cd", "d"), wagons=[(1234, "a")]), [1234])

    def test_a_return_put_aside(self):
        # Of wagon 1234 it is put aside; 1235 lacks it.
        far = gone(5, "cd", "c", 5)
        mine = [gone(1, "ab", "b", 1), far, gone(8, "bc", "c", 8), gone(9, "bc", "b", 9)]
        self.assertIn(("aside", 5), history(ROW, "a", mine)[0])
        other = [gone(20, "cd", "d", 2, wagon=1235), gone(21, "bc", "b", 7, wagon=1235), gone(22, "ab", "a", 8, wagon=1235)]
        wagons = [(1234, "a"), (1235, "c")]
        self.assertEqual(perhaps_of(ROW, wagons, mine + other, far), [1235])
        self.assertEqual(perhaps_of(ROW, wagons[:1], mine + other, far), [])
        self.assertEqual(perhaps_of(ROW, wagons, mine, far), [])

    def test_each_wagon_by_its_own_returns(self):
        paper = gone(5, "ab", "b", wagon=1234)
        with_gap = gone(6, "bc", "c", wagon=1235)
        without = gone(7, "ab", "b", wagon=1236)
        wagons = [(1235, "a"), (1236, "a"), (1237, "a")]
        self.assertEqual(perhaps_of(ROW, wagons, [paper, with_gap, without], paper), [1235])

    def test_each_wagon_by_its_own_line(self):
        wagons = [(1230, "a"), (1231, "b"), (1232, "c"), (1233, "h"), (1235, "f")]
        self.assertEqual(self.perhaps(1234, self.OWN, wagons=wagons), [1230])

    def test_no_wagons(self):
        self.assertEqual(self.perhaps(1234, self.OWN, wagons=[]), [])

    def test_rising(self):
        wagons = [(number, "a") for number in (234, 1034, 1134, 1204, 1230, 1231, 1239, 1334, 9234)]
        self.assertEqual(self.perhaps(1234, self.OWN, wagons=wagons), [number for number, line in wagons])

    def test_drawn_wagons(self):
        found = 0
        for chance, net, line, returns in draws(20, 150, 14):
            wagons = [(number, chance.choice(net[0])) for number in sorted(chance.sample((7, 17, 1007, 1017, 1018, 2017), 4))]
            rows = [row[:6] + (chance.choice((7, 17, 1007, 1017, 1018, 2017, 3017)),) + row[7:] for row in returns]
            for paper in rows:
                told = []
                for number, owner in wagons:
                    unlike = sum(one != far for one, far in zip(f"{number:04}", f"{paper[6]:04}"))
                    own = [row for row in rows if row[6] == number]
                    moved = paper[:6] + (number,) + paper[7:]
                    if unlike == 1 and best_of(net, owner, own + [moved])[1] < best_of(net, owner, own)[1]:
                        told.append(number)
                found += len(told)
                with self.subTest(net=net, wagons=wagons, rows=rows, paper=paper):
                    self.assertEqual(perhaps_of(net, wagons, rows, paper), told)
        self.assertGreater(found, 20)


class HandedIn(unittest.TestCase):
    """Point 2: what is handed in stays, what is told is new and the asker's own."""

    RETURNS = LookHistory.RETURNS[::-1]

    def test_returns_are_unchanged_behind_the_call(self):
        returns = list(self.RETURNS)
        told = history(ROW, "a", returns)
        look_history(ROW, "a", returns, told)
        perhaps_of(ROW, PerhapsOf.WAGONS, returns, returns[0])
        self.assertEqual(returns, self.RETURNS)

    def test_wagons_are_unchanged_behind_the_call(self):
        wagons = list(PerhapsOf.WAGONS)
        perhaps_of(ROW, wagons, list(self.RETURNS), self.RETURNS[0])
        self.assertEqual(wagons, PerhapsOf.WAGONS)

    def test_any_thing_is_unchanged_behind_the_call(self):
        told = history(ROW, "a", self.RETURNS)
        things = [told, (told[0], [9] * 4), (told[0][::-1], told[1]), (told[0], [-9] * 4), [[], []], ([[]], [[]])]
        before = copy.deepcopy(things)
        for thing in things:
            try:
                look_history(ROW, "a", self.RETURNS, thing)
            except NoProof:
                pass
        self.assertEqual(things, before)

    def test_a_told_history_is_the_askers_own(self):
        told, other = history(ROW, "a", self.RETURNS), history(ROW, "a", self.RETURNS)
        kept = copy.deepcopy(told)
        for half in told:
            half[0] = "less"
            half.append("more")
        self.assertEqual(other, kept)
        self.assertEqual(history(ROW, "a", self.RETURNS), kept)
        alone = history(ROW, "a", [])
        alone[0].append("more")
        alone[1].append("more")
        self.assertEqual(history(ROW, "a", []), ([], []))

    def test_a_told_list_of_wagons_is_the_askers_own(self):
        paper = gone(5, "ab", "b", wagon=1234)
        returns = [paper, gone(6, "bc", "c", wagon=1244)]
        told = perhaps_of(ROW, PerhapsOf.WAGONS, returns, paper)
        self.assertEqual(told, [1244])
        told.append(1)
        self.assertEqual(perhaps_of(ROW, PerhapsOf.WAGONS, returns, paper), [1244])

    def test_nothing_done_later_changes_what_was_told(self):
        returns = list(self.RETURNS)
        told = history(ROW, "a", returns)
        kept = copy.deepcopy(told)
        returns.pop()
        history(ROW, "a", returns)
        history(ROW, "b", self.RETURNS)
        history(RING, "a", walk("ab:b", "bc:c"))
        self.assertEqual(told, kept)
        self.assertNotEqual(history(ROW, "a", returns), kept)


if __name__ == "__main__":
    unittest.main()
