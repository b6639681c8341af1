"""Points 18 to 20, and points 2 and 3 as far as these functions go."""

import copy
import unittest

from samples import ROW, draws, gone, net_of
from throughlines.hire import astray, hire_days, wagon_days
from throughlines.histories import history

STAR = net_of("abcd", "abcd")


def went(*words, load="laden"):
    """Returns of the numbers 1, 2 and so on, of words as "7 bc:c", and "7 bc:c empty"; in order within a day."""
    rows = []
    for number, word in enumerate(words, start=1):
        day, over, *told = word.split()
        junction, line = over.split(":")
        rows.append(gone(number, junction, line, int(day), number, load=told[0] if told else load))
    return rows


def steps_of(line, returns, net=ROW):
    return history(net, line, returns)[0]


def held_in(steps, returns):
    """Of each held return its number, day, load, from where, to where, and the gap's road ahead or None."""
    rows = {row[1]: row for row in returns}
    return [(step[1], rows[step[1]][4], rows[step[1]][8], step[2], step[3],
             list(steps[at - 1][1]) if at and steps[at - 1][0] == "gap" else None)
            for at, step in enumerate(steps) if step[0] == "held"]


def days_by_words(steps, returns):
    """Point 18 day by day."""
    held = held_in(steps, returns)
    told = []
    for day in range(held[0][1], held[-1][1] + 1) if held else []:
        so_far = [row for row in held if row[1] <= day]
        onward = held[len(so_far):][:1]
        if onward and onward[0][5]:
            told.append((day, ("gap", onward[0][0])))
        else:
            told.append((day, ("line", so_far[-1][4])))
    return told


def hire_by_words(line, free, steps, returns):
    """Point 19 day by day."""
    days = days_by_words(steps, returns)
    roads = {row[0]: row[5] for row in held_in(steps, returns)}
    told = []
    for at, (day, (kind, name)) in enumerate(days):
        if kind == "gap":
            told.append((day, roads[name][0] if roads[name][0] != line else roads[name][1]))
        elif name != line:
            first = at
            while first > 0 and days[first - 1][1] == (kind, name):
                first -= 1
            if at - first >= free:
                told.append((day, name))
    return told


def astray_by_words(line, steps, returns):
    """Point 20 line by line."""
    kept, told = [line], []
    for number, day, load, near, over, road in held_in(steps, returns):
        for onward in (road or [near])[1:] + [over]:
            is_return = onward == over and kept[-1] == near
            if is_return and load == "empty" and len(kept) >= 2 and kept[-2] != over:
                told.append(number)
            if onward in kept:
                while kept[-1] != onward:
                    kept.pop()
            else:
                kept.append(onward)
    return told


def spread_draws(seed, many, most):
    """Drawn returns whose days lie further apart, some of them of empty wagons."""
    for chance, net, line, returns in draws(seed, many, most):
        days = sorted(chance.sample(range(1, chance.choice((30, 100, 421))), len({row[4] for row in returns})))
        later = dict(zip(sorted({row[4] for row in returns}), days))
        rows = [row[:4] + (later[row[4]],) + row[5:8] + (chance.choice(("laden", "empty")), row[9]) for row in returns]
        yield chance, net, line, rows, history(net, line, rows)[0]


class WagonDays(unittest.TestCase):
    def told(self, line, returns, *days, net=ROW):
        """Days as (first, last, kind, name)."""
        steps = steps_of(line, returns, net)
        wanted = [(day, (kind, name)) for first, last, kind, name in days for day in range(first, last + 1)]
        self.assertEqual(wagon_days(steps, returns), wanted)
        self.assertEqual(wagon_days(steps, returns[::-1]), wanted)
        self.assertEqual(days_by_words(steps, returns), wanted)

    def test_no_returns(self):
        self.told("a", [])

    def test_none_held(self):
        self.told("h", went("3 ab:b", "4 bc:c"))
        self.told("a", went("3 fg:f"))

    def test_one_held(self):
        self.told("a", went("3 ab:b"), (3, 3, "line", "b"))
        self.told("a", went("1 fg:f", "3 ab:b", "9 fg:f"), (3, 3, "line", "b"))

    def test_the_last_one_of_a_day(self):
        self.told("a", went("3 ab:b", "3 bc:c"), (3, 3, "line", "c"))
        self.told("a", went("3 ab:b", "3 bc:c", "3 bc:b"), (3, 3, "line", "b"))
        self.told("a", went("3 ab:b", "3 bc:c", "5 cd:d", "5 de:e"), (3, 4, "line", "c"), (5, 5, "line", "e"))

    def test_the_last_one_of_a_day_by_its_hour(self):
        rows = [gone(9, "ab", "b", 3, 4), gone(1, "bc", "c", 3, 5)]
        self.told("a", rows, (3, 3, "line", "c"))

    def test_days_without_a_return(self):
        self.told("a", went("3 ab:b", "7 bc:c", "8 cd:d"), (3, 6, "line", "b"), (7, 7, "line", "c"), (8, 8, "line", "d"))
        self.told("a", went("1 ab:b", "420 ab:a"), (1, 419, "line", "b"), (420, 420, "line", "a"))

    def test_a_return_put_aside_is_no_day(self):
        returns = went("2 fg:f", "3 ab:b", "5 fg:f", "7 bc:c", "9 fg:g")
        self.told("a", returns, (3, 6, "line", "b"), (7, 7, "line", "c"))

    def test_a_gap_of_several_days(self):
        self.told("a", went("3 ab:b", "8 cd:d", "9 de:e"), (3, 7, "gap", 2), (8, 8, "line", "d"), (9, 9, "line", "e"))

    def test_a_gap_from_one_day_to_the_next(self):
        self.told("a", went("3 ab:b", "4 cd:d", "5 de:e"), (3, 3, "gap", 2), (4, 4, "line", "d"), (5, 5, "line", "e"))

    def test_a_gap_on_one_day(self):
        self.told("a", went("3 ab:b", "3 cd:d", "5 de:e"), (3, 4, "line", "d"), (5, 5, "line", "e"))

    def test_several_held_ones_on_the_days_of_a_gap(self):
        # The gap begins behind the last held one of day 3, and ends ahead of the first one of day 6.
        returns = went("3 ab:b", "3 ab:a", "3 ab:b", "6 cd:d", "6 cd:c", "7 cd:d")
        self.told("a", returns, (3, 5, "gap", 4), (6, 6, "line", "c"), (7, 7, "line", "d"))

    def test_two_gaps(self):
        returns = went("3 ab:b", "5 cd:d", "5 de:e", "9 cd:c", "12 bc:b")
        self.assertEqual([step[1] for step in steps_of("a", returns) if step[0] == "gap"], [("b", "c"), ("e", "d")])
        self.told("a", returns, (3, 4, "gap", 2), (5, 8, "gap", 4), (9, 11, "line", "c"), (12, 12, "line", "b"))

    def test_a_gap_ahead_of_the_first_held_one(self):
        self.told("a", went("3 bc:c", "5 cd:d"), (3, 4, "line", "c"), (5, 5, "line", "d"))

    def test_a_return_put_aside_within_a_gap(self):
        returns = went("3 ab:b", "5 fg:f", "8 cd:d", "9 de:e")
        self.told("a", returns, (3, 7, "gap", 3), (8, 8, "line", "d"), (9, 9, "line", "e"))

    def test_each_day_once_of_drawn_returns(self):
        gaps = 0
        for chance, net, line, returns, steps in spread_draws(180, 200, 25):
            told = wagon_days(steps, returns)
            self.assertEqual(told, days_by_words(steps, returns))
            held = [row[1] for row in held_in(steps, returns)]
            self.assertEqual([day for day, place in told], list(range(held[0], held[-1] + 1)) if held else [])
            gaps += any(place[0] == "gap" for day, place in told)
            chance.shuffle(returns)
            self.assertEqual(wagon_days(steps, returns), told)
        self.assertGreater(gaps, 40)


class HireDays(unittest.TestCase):
    def told(self, line, free, returns, *days, net=ROW):
        """Days as (first, last, line)."""
        steps = steps_of(line, returns, net)
        wanted = [(day, name) for first, last, name in days for day in range(first, last + 1)]
        self.assertEqual(hire_days(line, free, steps, returns), wanted)
        self.assertEqual(hire_days(line, free, steps, returns[::-1]), wanted)
        self.assertEqual(hire_by_words(line, free, steps, returns), wanted)

    def test_no_returns_and_none_held(self):
        for free in (0, 1, 30):
            self.told("a", free, [])
            self.told("h", free, went("3 ab:b", "9 bc:c"))

    def test_free_days(self):
        # Four days on b, from 3 to 6, then one on the owner's line.
        returns = went("3 ab:b", "7 ab:a")
        self.told("a", 0, returns, (3, 6, "b"))
        self.told("a", 1, returns, (4, 6, "b"))
        self.told("a", 3, returns, (6, 6, "b"))
        self.told("a", 4, returns)
        self.told("a", 5, returns)
        self.told("a", 30, returns)

    def test_the_last_day(self):
        self.told("a", 0, went("3 ab:b"), (3, 3, "b"))
        self.told("a", 1, went("3 ab:b"))
        self.told("a", 2, went("3 ab:b", "5 bc:c"))
        self.told("a", 1, went("3 ab:b", "5 bc:c"), (4, 4, "b"))

    def test_the_owners_own_line(self):
        self.told("a", 0, went("3 ab:b", "5 ab:a", "9 ab:b", "11 ab:a"), (3, 4, "b"), (9, 10, "b"))
        self.told("a", 0, went("3 ab:b", "3 ab:a"))

    def test_the_same_line_again_behind_another_one(self):
        returns = went("3 ab:b", "6 bc:c", "7 bc:b", "10 ab:a")
        self.told("a", 2, returns, (5, 5, "b"), (9, 9, "b"))
        self.told("a", 0, returns, (3, 5, "b"), (6, 6, "c"), (7, 9, "b"))
        returns = went("3 ab:b", "6 ab:a", "7 ab:b", "10 ab:a")
        self.told("a", 2, returns, (5, 5, "b"), (9, 9, "b"))

    def test_the_same_line_again_within_a_day(self):
        # Day 5 is a day on b like those beside it, since there it stands behind the last one of that day.
        returns = went("3 ab:b", "5 bc:c", "5 bc:b", "8 ab:a")
        self.told("a", 4, returns, (7, 7, "b"))

    def test_each_line_has_its_own_free_days(self):
        returns = went("3 ab:b", "6 bc:c", "9 cd:d", "12 cd:c")
        self.told("a", 1, returns, (4, 5, "b"), (7, 8, "c"), (10, 11, "d"))
        self.told("a", 2, returns, (5, 5, "b"), (8, 8, "c"), (11, 11, "d"))

    def test_a_gap_whose_road_does_not_begin_with_the_owners_line(self):
        returns = went("3 ab:b", "8 cd:d", "9 de:e")
        self.told("a", 0, returns, (3, 7, "b"), (8, 8, "d"), (9, 9, "e"))

    def test_a_gap_whose_road_begins_with_the_owners_line(self):
        # On a behind day 5, and at day 9 over from b to c.
        returns = went("3 ab:b", "5 ab:a", "9 bc:c", "10 cd:d")
        self.told("a", 0, returns, (3, 4, "b"), (5, 8, "b"), (9, 9, "c"), (10, 10, "d"))
        self.told("a", 30, returns, (5, 8, "b"))

    def test_a_gap_of_three_lines(self):
        returns = went("1 ab:b", "2 ab:a", "5 cd:d", "6 de:e", "7 de:d", "8 cd:c")
        self.assertIn(("gap", ("a", "b", "c")), steps_of("a", returns))
        self.told("a", 30, returns, (2, 4, "b"))
        self.told("b", 30, went("2 ab:a", "5 cd:d", "6 de:e", "7 de:d", "8 cd:c"), (2, 4, "a"))

    def test_no_free_days_in_a_gap(self):
        returns = went("3 ab:b", "8 cd:d", "9 de:e")
        for free in (1, 2, 5, 30):
            self.told("a", free, returns, (3, 7, "b"))

    def test_the_same_line_again_behind_a_gap(self):
        # On b for days 3 and 4, then in a gap that b owes, then on b again.
        returns = went("3 ab:b", "5 bc:c", "5 bc:b", "7 cd:c", "7 bc:b", "11 ab:a")
        steps = steps_of("a", returns)
        self.assertIn(("gap", ("b", "c", "d")), steps)
        self.told("a", 0, returns, (3, 4, "b"), (5, 6, "b"), (7, 10, "b"))
        self.told("a", 2, returns, (5, 6, "b"), (9, 10, "b"))
        self.told("a", 3, returns, (5, 6, "b"), (10, 10, "b"))

    def test_each_days_hire_is_owed_once_of_drawn_returns(self):
        owed = 0
        for chance, net, line, returns, steps in spread_draws(190, 200, 25):
            for free in (0, 1, 3, 30):
                told = hire_days(line, free, steps, returns)
                self.assertEqual(told, hire_by_words(line, free, steps, returns))
                days = [day for day, name in told]
                self.assertEqual(days, sorted(set(days)))
                self.assertNotIn(line, [name for day, name in told])
                self.assertLessEqual(set(days), {day for day, place in wagon_days(steps, returns)})
                owed += len(told)
        self.assertGreater(owed, 1000)


class Astray(unittest.TestCase):
    def told(self, line, returns, *numbers, net=ROW):
        steps = steps_of(line, returns, net)
        self.assertEqual(astray(line, steps, returns), list(numbers))
        self.assertEqual(astray(line, steps, returns[::-1]), list(numbers))
        self.assertEqual(astray_by_words(line, steps, returns), list(numbers))

    def test_no_returns_and_none_held(self):
        self.told("a", [])
        self.told("h", went("3 ab:b empty", "4 bc:c empty"))

    def test_home_by_the_way_it_came(self):
        self.told("a", went("1 ab:b", "2 bc:c", "3 cd:d", "4 cd:c empty", "5 bc:b empty", "6 ab:a empty"))

    def test_laden_ones_are_never_astray(self):
        self.told("a", went("1 ab:b", "2 bc:c", "3 cd:d", "4 de:e", "5 de:d", "6 cd:c"))

    def test_over_to_another_than_the_last_but_one(self):
        self.told("a", went("1 ab:b", "2 bc:c empty"), 2)
        self.told("a", went("1 ab:b", "2 bc:c empty", "3 cd:d empty", "4 de:e"), 2, 3)
        self.told("a", went("1 ab:b", "2 bc:c", "3 bc:b empty", "4 bc:c empty"), 4)

    def test_from_home_it_is_not_astray(self):
        self.told("a", went("1 ab:b empty"))
        self.told("a", went("1 ab:b", "2 ab:a empty", "3 ab:b empty", "4 bc:c empty"), 4)

    def test_behind_an_astray_one_it_goes_home_by_the_way_it_came(self):
        self.told("a", went("1 ab:b", "2 bc:c empty", "3 bc:b empty", "4 ab:a empty"), 2)

    def test_to_a_kept_line_further_back(self):
        # From d straight to a, which is kept: those behind it are let go.
        self.told("a", went("1 abcd:b", "2 abcd:c", "3 abcd:d", "4 abcd:a empty", "5 abcd:c empty"), 4, net=STAR)
        # To b, the last but two; then home to a.
        self.told("a", went("1 abcd:b", "2 abcd:c", "3 abcd:d", "4 abcd:b empty", "5 abcd:a empty"), 4, net=STAR)
        # Laden it lets go, too: behind the fourth a and b are kept.
        self.told("a", went("1 abcd:b", "2 abcd:c", "3 abcd:d", "4 abcd:b", "5 abcd:c empty", "6 abcd:b empty",
                            "7 abcd:a empty"), 5, net=STAR)
        # And where it lets go all, it is at home.
        self.told("a", went("1 abcd:b", "2 abcd:c", "3 abcd:a", "4 abcd:d empty", "5 abcd:a empty"), net=STAR)

    def test_along_a_gaps_road_lines_are_kept(self):
        # From b over c and d to e: b, c, d are kept ahead of the second one.
        returns = went("1 ab:b", "2 de:e", "3 de:d empty", "4 cd:c empty", "5 bc:b empty", "6 ab:a empty")
        self.assertIn(("gap", ("b", "c", "d")), steps_of("a", returns))
        self.told("a", returns)
        self.told("a", went("1 ab:b", "2 de:e empty", "3 de:d", "4 cd:c", "5 bc:b"), 2)

    def test_along_a_gaps_road_lines_are_let_go(self):
        # From d over c to b, which are kept; from there to a it goes home.
        returns = went("1 ab:b", "2 bc:c", "3 cd:d", "4 ab:a empty", "5 ab:b", "6 ab:a empty")
        self.assertIn(("gap", ("d", "c", "b")), steps_of("a", returns))
        self.told("a", returns)
        # Let go to b, then over to c again, and not to a.
        returns = went("1 ab:b", "2 bc:c", "3 cd:d", "4 bc:c empty", "5 bc:b", "6 ab:a")
        self.assertIn(("gap", ("d", "c", "b")), steps_of("a", returns))
        self.told("a", returns, 4)

    def test_a_gap_whose_road_leads_home(self):
        # From c over b to a, where a alone is kept: over to b it isn't astray.
        returns = went("1 ab:b", "2 bc:c", "3 ab:b empty", "4 ab:a empty", "5 ab:b", "6 ab:a")
        self.assertIn(("gap", ("c", "b", "a")), steps_of("a", returns))
        self.told("a", returns)

    def test_a_gap_ahead_of_the_first_one(self):
        self.told("a", went("1 bc:c empty", "2 bc:b empty", "3 ab:a empty"), 1)
        self.told("a", went("1 bc:c", "2 bc:b empty", "3 ab:a empty"))

    def test_a_return_put_aside_counts_for_nothing(self):
        self.told("a", went("1 ab:b", "2 fg:g empty", "3 ab:a empty"))

    def test_in_the_order_of_the_returns(self):
        rows = [gone(9, "ab", "b", 1), gone(8, "bc", "c", 2, load="empty"), gone(3, "cd", "d", 3, load="empty"),
                gone(5, "de", "e", 4, load="empty")]
        self.told("a", rows, 8, 3, 5)

    def test_drawn_returns(self):
        found = 0
        for chance, net, line, returns, steps in spread_draws(200, 200, 25):
            told = astray(line, steps, returns)
            self.assertEqual(told, astray_by_words(line, steps, returns))
            found += len(told)
        self.assertGreater(found, 100)


class HandedIn(unittest.TestCase):
    """Point 2: what is handed in stays, what is told is new and the asker's own."""

    RETURNS = went("3 ab:b", "8 cd:d empty", "9 de:e empty")

    def asked(self):
        steps = steps_of("a", self.RETURNS)
        return (lambda: wagon_days(steps, self.RETURNS), lambda: hire_days("a", 0, steps, self.RETURNS),
                lambda: astray("a", steps, self.RETURNS))

    def test_it_is_unchanged_behind_the_call(self):
        steps, returns = steps_of("a", self.RETURNS), list(self.RETURNS)
        kept = copy.deepcopy((steps, returns))
        wagon_days(steps, returns)
        hire_days("a", 1, steps, returns)
        astray("a", steps, returns)
        self.assertEqual((steps, returns), kept)

    def test_what_is_told_is_the_askers_own(self):
        for ask in self.asked():
            told, other = ask(), ask()
            kept = list(told)
            self.assertIs(type(told), list)
            self.assertTrue(told)
            told[0] = "less"
            told.append("more")
            self.assertEqual(other, kept)
            self.assertEqual(ask(), kept)

    def test_steps_and_returns_changed_later_change_nothing_told(self):
        steps, returns = steps_of("a", self.RETURNS), list(self.RETURNS)
        told = (wagon_days(steps, returns), hire_days("a", 0, steps, returns), astray("a", steps, returns))
        kept = copy.deepcopy(told)
        steps.clear()
        returns.clear()
        self.assertEqual(told, kept)


if __name__ == "__main__":
    unittest.main()
