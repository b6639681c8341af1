"""Points 4, 5 and 6, and point 2 as far as these functions go."""

import random
import unittest
from fractions import Fraction

from throughlines.money import ahead, days_of, month_of, parts, with_leasts

GREATEST = 10 ** 9


def draws(seed, many):
    """Sums with weights and leasts, the same ones in each run."""
    chance = random.Random(seed)
    for _ in range(many):
        size = chance.choice((1, 2, 3, 5, 8, 40))
        top = chance.choice((1, 3, 10, 1000, GREATEST))
        pence = chance.randint(0, chance.choice((1, 10, 100, GREATEST)))
        weights = [chance.randint(1, top) for _ in range(size)]
        leasts = [chance.randint(0, max(1, chance.choice((1, 2, 3)) * pence // size)) for _ in range(size)]
        yield pence, weights, leasts


def penny_by_penny(pence, weights):
    """The parts by point 4's words, in exact fractions, the left pence one after the other."""
    due = [Fraction(pence * weight, sum(weights)) for weight in weights]
    told = [int(part) for part in due]
    rests = [part - whole for part, whole in zip(due, told)]
    for _ in range(pence - sum(told)):
        at = rests.index(max(rests))
        told[at] += 1
        rests[at] = -1
    return told


class Parts(unittest.TestCase):
    def test_told_by_weights(self):
        self.assertEqual(parts(100, [1, 1, 2]), [25, 25, 50])
        self.assertEqual(parts(10, [3, 7]), [3, 7])

    def test_left_pence_go_to_the_greatest_rests(self):
        # 10 * w % 7 of 1, 2, 4 is 3, 6, 5.
        self.assertEqual(parts(10, [1, 2, 4]), [1, 3, 6])
        # 5 * w % 6 of 1, 2, 3 is 5, 4, 3.
        self.assertEqual(parts(5, [1, 2, 3]), [1, 2, 2])

    def test_equal_rests_go_to_the_earlier_ones(self):
        self.assertEqual(parts(1, [1, 1, 1]), [1, 0, 0])
        self.assertEqual(parts(2, [1, 1, 1]), [1, 1, 0])
        self.assertEqual(parts(3, [5, 5, 5, 5]), [1, 1, 1, 0])
        self.assertEqual(parts(1, [1, 1]), [1, 0])
        self.assertEqual(parts(6, [3, 1]), [5, 1])

    def test_a_weight_0_gets_nothing(self):
        self.assertEqual(parts(2, [0, 1, 0, 1, 1]), [0, 1, 0, 1, 0])
        self.assertEqual(parts(GREATEST, [0, 7, 0]), [0, GREATEST, 0])
        self.assertEqual(parts(5, [0, 0, 1]), [0, 0, 5])

    def test_one_weight_alone(self):
        for weight in (1, 2, GREATEST):
            self.assertEqual(parts(17, [weight]), [17])

    def test_a_sum_of_0(self):
        self.assertEqual(parts(0, [3, 0, 4]), [0, 0, 0])
        self.assertEqual(parts(0, [1]), [0])

    def test_forty_weights(self):
        self.assertEqual(parts(39, [1] * 40), [1] * 39 + [0])
        self.assertEqual(parts(41, [1] * 40), [2] + [1] * 39)
        self.assertEqual(sum(parts(GREATEST, list(range(40)))), GREATEST)

    def test_the_greatest_sums_and_weights(self):
        self.assertEqual(parts(GREATEST, [GREATEST]), [GREATEST])
        self.assertEqual(parts(GREATEST, [GREATEST, GREATEST, GREATEST]), [333333334, 333333333, 333333333])
        # A float would lose the rests here: 10 ** 18 of 10 ** 9 + 1 leaves 1, the other 10 ** 9.
        self.assertEqual(parts(GREATEST, [GREATEST, 1]), [999999999, 1])
        self.assertEqual(parts(GREATEST, [GREATEST] * 40), [25000000] * 40)

    def test_beyond_the_bounds_nothing_is_raised(self):
        self.assertEqual(parts(5, [0, 0]), [0, 0])
        self.assertEqual(parts(5, []), [])
        self.assertEqual(parts(41, [1] * 41), [1] * 41)
        self.assertEqual(parts(2 * GREATEST, [4 * 10 ** 11, 4 * 10 ** 11]), [GREATEST, GREATEST])

    def test_the_parts_by_the_words(self):
        for pence, weights, leasts in draws(4, 400):
            with self.subTest(pence=pence, weights=weights):
                told = parts(pence, weights)
                self.assertEqual(told, penny_by_penny(pence, weights))
                self.assertEqual(sum(told), pence)
                if any(leasts):
                    self.assertEqual(parts(pence, leasts), penny_by_penny(pence, leasts))


class Ahead(unittest.TestCase):
    def test_wishes_that_come_to_less(self):
        self.assertEqual(ahead(100, [30, 40]), [30, 40])
        self.assertEqual(ahead(71, [30, 40]), [30, 40])
        self.assertEqual(ahead(GREATEST, [1]), [1])

    def test_wishes_that_come_to_just_the_sum(self):
        self.assertEqual(ahead(70, [30, 40]), [30, 40])

    def test_wishes_that_come_to_a_penny_more(self):
        self.assertEqual(ahead(69, [30, 40]), [30, 39])
        self.assertEqual(ahead(2, [1, 1, 1]), [1, 1, 0])

    def test_wishes_that_come_to_far_more(self):
        self.assertEqual(ahead(10, [300, 100, 0]), [8, 2, 0])
        self.assertEqual(ahead(1, [GREATEST, GREATEST]), [1, 0])
        self.assertEqual(ahead(0, [5, 6]), [0, 0])
        self.assertEqual(ahead(39, [GREATEST] * 40), [1] * 39 + [0])

    def test_all_wishes_0(self):
        self.assertEqual(ahead(10, [0, 0]), [0, 0])
        self.assertEqual(ahead(0, [0]), [0])


class WithLeasts(unittest.TestCase):
    def test_no_leasts(self):
        self.assertEqual(with_leasts(10, [1, 2, 4], [0, 0, 0]), [1, 3, 6])
        self.assertEqual(with_leasts(0, [1, 2], [0, 0]), [0, 0])

    def test_leasts_that_all_get(self):
        self.assertEqual(with_leasts(10, [1, 2, 4], [1, 3, 6]), [1, 3, 6])

    def test_one_is_held(self):
        self.assertEqual(with_leasts(100, [1, 1, 2], [40, 0, 0]), [40, 20, 40])

    def test_a_part_of_just_the_least_is_not_held(self):
        # Held at its 1, the first would leave 4 by 1 and 6, which are 1 and 3.
        self.assertEqual(parts(5, [1, 1, 6]), [1, 0, 4])
        self.assertEqual(with_leasts(5, [1, 1, 6], [1, 0, 0]), [1, 0, 4])

    def test_leasts_that_come_to_just_the_sum(self):
        self.assertEqual(with_leasts(100, [1, 1, 1], [50, 30, 20]), [50, 30, 20])
        self.assertEqual(with_leasts(7, [5], [7]), [7])

    def test_leasts_that_come_to_a_penny_more(self):
        self.assertEqual(with_leasts(99, [1, 1, 1], [50, 30, 20]), [49, 30, 20])
        self.assertEqual(with_leasts(6, [5], [7]), [6])
        self.assertEqual(with_leasts(0, [5, 3], [0, 1]), [0, 0])

    def test_leasts_that_come_to_far_more(self):
        # By the leasts as weights, not by the weights.
        self.assertEqual(with_leasts(10, [1, 1, 1], [300, 100, 0]), [8, 2, 0])

    def test_one_is_held_in_a_second_round(self):
        # 25, 25, 50; the first held at 40 leaves 20 and 40; the second held at 22 leaves 38.
        self.assertEqual(with_leasts(100, [1, 1, 2], [40, 22, 0]), [40, 22, 38])

    def test_one_is_held_in_a_third_round(self):
        # 25 each; then 20 each; then 18 and 18; then what is left.
        self.assertEqual(with_leasts(100, [1, 1, 1, 1], [40, 23, 19, 0]), [40, 23, 19, 18])

    def test_all_that_would_get_less_are_held_at_once(self):
        # 2, 1, 2, 4, 0: the second and the last are held, and leave 6 by 6, 6 and 15.
        # Were the second held alone, the last one would then get its least.
        self.assertEqual(with_leasts(9, [6, 3, 6, 15, 2], [0, 2, 0, 1, 1]), [2, 2, 1, 3, 1])
        # 6, 6, 3, 0, 4: the last two are held; alone, the last one would change the parts.
        self.assertEqual(with_leasts(19, [19, 20, 9, 2, 14], [5, 5, 0, 1, 5]), [5, 5, 3, 1, 5])

    def test_forty_of_them(self):
        self.assertEqual(with_leasts(40, [GREATEST] + [1] * 39, [0] + [1] * 39), [1] * 40)
        self.assertEqual(with_leasts(GREATEST, [1] * 40, [GREATEST] + [0] * 39), [GREATEST] + [0] * 39)

    def test_none_gets_less_than_its_least_and_all_come_to_the_sum(self):
        for pence, weights, leasts in draws(5, 600):
            with self.subTest(pence=pence, weights=weights, leasts=leasts):
                told = with_leasts(pence, weights, leasts)
                self.assertEqual(sum(told), pence)
                if sum(leasts) > pence:
                    self.assertEqual(told, parts(pence, leasts))
                    continue
                self.assertTrue(all(got >= least for got, least in zip(told, leasts)))
                above = [at for at, got in enumerate(told) if got > leasts[at]]
                # Pence beyond the leasts go by the weights: at most a penny from just.
                for one in above:
                    for other in above:
                        self.assertLess((told[one] - 1) * weights[other], (told[other] + 1) * weights[one])


class Days(unittest.TestCase):
    def test_months_of_days(self):
        told = [month_of(day) for day in (1, 29, 30, 31, 60, 61, 390, 391, 420)]
        self.assertEqual(told, [1, 1, 1, 2, 2, 3, 13, 14, 14])

    def test_days_of_months(self):
        self.assertEqual(days_of(1), (1, 30))
        self.assertEqual(days_of(2), (31, 60))
        self.assertEqual(days_of(13), (361, 390))
        self.assertEqual(days_of(14), (391, 420))

    def test_each_day_is_in_just_its_month(self):
        for month in range(1, 15):
            first, last = days_of(month)
            inside = [day for day in range(1, 421) if month_of(day) == month]
            self.assertEqual(inside, list(range(first, last + 1)))


class HandedIn(unittest.TestCase):
    """Point 2: what is handed in stays, what is told is new and the asker's own."""

    CALLS = (
        (parts, ([3, 0, 4, 4],)),
        (ahead, ([3, 0, 4],)),
        (ahead, ([300, 0, 400],)),
        (with_leasts, ([1, 1, 2], [0, 0, 0])),
        (with_leasts, ([1, 1, 2], [40, 22, 0])),
        (with_leasts, ([1, 1, 2], [50, 60, 70])),
    )

    def test_what_is_handed_in_is_unchanged(self):
        for asked, lists in self.CALLS:
            with self.subTest(asked.__name__, lists=lists):
                handed = [list(told) for told in lists]
                asked(100, *handed)
                self.assertEqual(handed, [list(told) for told in lists])

    def test_a_told_list_is_the_askers_own(self):
        for asked, lists in self.CALLS:
            with self.subTest(asked.__name__, lists=lists):
                handed = [list(told) for told in lists]
                told = asked(100, *handed)
                kept = list(told)
                self.assertIs(type(told), list)
                told.append(5)
                told[0] = -1
                self.assertEqual(handed, [list(told) for told in lists])
                self.assertEqual(asked(100, *handed), kept)

    def test_what_was_handed_in_may_be_changed_behind_the_call(self):
        for asked, lists in self.CALLS:
            with self.subTest(asked.__name__, lists=lists):
                handed = [list(told) for told in lists]
                told = asked(100, *handed)
                kept = list(told)
                for things in handed:
                    things[:] = [9, 9]
                self.assertEqual(told, kept)


if __name__ == "__main__":
    unittest.main()
