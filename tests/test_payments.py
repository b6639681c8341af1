"""Points 22 to 24, and points 2 and 3 as far as these functions go."""

import copy
import functools
import itertools
import random
import time
import unittest

from samples import ANY_THINGS
from throughlines.errors import HouseError, NoProof
from throughlines.money import parts
from throughlines.payments import carried, fewest, look_payments

MOST = 10 ** 12


def is_int(thing):
    return type(thing) is int


@functools.lru_cache(maxsize=None)
def partings(many):
    """All partings of the numbers below many into sets, as tuples of tuples."""
    if many == 0:
        return [()]
    found = []
    for parting in partings(many - 1):
        found.append(parting + ((many - 1,),))
        for at, one in enumerate(parting):
            found.append(parting[:at] + (one + (many - 1,),) + parting[at + 1:])
    return found


def most_sets(worths):
    """Into how many sets that come to nought they can be parted, one set at most being left over; by trying all."""
    return max(sum(sum(worths[at] for at in one) == 0 for one in parting) for parting in partings(len(worths)))


def others(accounts):
    return [account for account in accounts if account != 0]


def settled(accounts, payments):
    got = [0] * len(accounts)
    for payer, payee, pence in payments:
        got[payer] -= pence
        got[payee] += pence
    return got == list(accounts)


def set_of(number, many):
    return [at for at in range(many) if number // 2 ** at % 2]


def table_by_words(accounts, table):
    """Whether it is a table as point 22 tells."""
    worths = others(accounts)
    if len(table) != 2 ** len(worths) or not all(map(is_int, table)) or table[0] != 0:
        return False
    for number in range(1, len(table)):
        lines = set_of(number, len(worths))
        nought = sum(worths[at] for at in lines) == 0
        if any(table[number] < table[number - 2 ** at] + nought for at in lines):
            return False
    return True


def look_by_words(accounts, thing):
    """The fault by point 23's words, None where it is let by."""
    if type(thing) is not tuple or len(thing) != 2 or type(thing[0]) is not list or type(thing[1]) is not list:
        return "paper"
    payments, table = thing
    for row in payments:
        if type(row) is not tuple or len(row) != 3 or not all(map(is_int, row)):
            return "payments"
        if not (0 <= row[0] < len(accounts) and 0 <= row[1] < len(accounts)) or row[0] == row[1] or row[2] <= 0:
            return "payments"
    if not settled(accounts, payments):
        return "payments"
    if not table_by_words(accounts, table):
        return "table"
    return "many" if len(payments) > len(others(accounts)) - table[-1] else None


def draw_accounts(chance, many, most):
    """Accounts that come to nought, with noughts and sets that do among them."""
    accounts = []
    while len(accounts) < many:
        size = min(many - len(accounts), chance.choice((1, 2, 2, 3, 3, 4, 8)))
        some = [chance.randint(-most, most) for _ in range(size - 1)]
        accounts += some + [-sum(some)]
    chance.shuffle(accounts)
    return accounts


class Fewest(unittest.TestCase):
    def told(self, accounts, many=None):
        """They settle, payers and payees are told by the accounts' signs, and none fewer do; the table shows it."""
        told = fewest(accounts)
        self.assertIs(type(told), tuple)
        payments, table = told
        self.assertIs(type(payments), list)
        self.assertIs(type(table), list)
        for row in payments:
            self.assertIs(type(row), tuple)
            self.assertTrue(len(row) == 3 and all(map(is_int, row)) and row[2] > 0)
            self.assertTrue(accounts[row[0]] < 0 < accounts[row[1]])
        self.assertTrue(settled(accounts, payments))
        self.assertTrue(table_by_words(accounts, table))
        self.assertEqual(len(payments), len(others(accounts)) - table[-1])
        if many is not None:
            self.assertEqual(len(payments), many)
        look_payments(accounts, told)
        self.assertEqual(fewest(accounts), told)
        return told

    def test_one_account(self):
        self.assertEqual(self.told([0]), ([], [0]))

    def test_all_noughts(self):
        for many in range(1, 9):
            self.assertEqual(self.told([0] * many), ([], [0]))

    def test_two_accounts(self):
        self.assertEqual(self.told([5, -5]), ([(1, 0, 5)], [0, 0, 0, 1]))
        self.assertEqual(self.told([-7, 7]), ([(0, 1, 7)], [0, 0, 0, 1]))
        self.assertEqual(self.told([0, 0, -7, 0, 7]), ([(2, 4, 7)], [0, 0, 0, 1]))

    def test_three_accounts(self):
        self.assertEqual(sorted(self.told([5, -2, -3], 2)[0]), [(1, 0, 2), (2, 0, 3)])
        self.assertEqual(sorted(self.told([-5, 2, 3], 2)[0]), [(0, 1, 2), (0, 2, 3)])

    def test_two_sets_of_two(self):
        self.assertEqual(sorted(self.told([5, -3, 3, -5], 2)[0]), [(1, 2, 3), (3, 0, 5)])

    def test_sets_that_the_greatest_first_would_miss(self):
        # The greatest payer's pence to the greatest payee would leave four more.
        self.told([9, 8, 4, -7, -6, -8], 4)
        self.told([10, 9, -4, -6, -7, -2], 4)

    def test_eight_accounts_of_which_sets_come_to_nought_in_several_ways(self):
        self.told([1, -1, 1, -1, 1, -1, 1, -1], 4)
        self.told([3, 3, 3, 3, -4, -4, -4, 0], 6)
        self.told([1, 2, 3, -6, 6, -3, -2, -1], 4)
        self.told([5, -2, -3, 7, -3, -4, 1, -1], 5)
        self.told([5, -2, -3, 7, -3, -4, 2, -2], 5)
        self.told([1, 2, 4, 8, 16, 32, 64, -127], 7)
        self.told([2, 2, -1, -3, 5, -1, -2, -2], 5)

    def test_the_greatest_accounts(self):
        self.told([MOST, -MOST], 1)
        self.told([MOST, -MOST] * 4, 4)
        self.told([MOST, MOST, MOST, MOST - 1, -MOST, -MOST, -MOST, 1 - MOST], 4)
        self.told([MOST, MOST, MOST, -MOST + 1, -MOST + 1, -MOST + 1, -2, -1], 6)
        self.told([MOST, MOST, MOST, -MOST + 2, -MOST + 2, -MOST + 1, -4, -1], 6)
        self.told([MOST, MOST, -MOST + 2, -MOST + 5, -3, -4], 5)

    def test_greater_ones(self):
        for most in (10 ** 13, 10 ** 30, 10 ** 60):
            self.told([most, 1 - most, -1], 2)
            self.told([most, -most, 7 * most, -7 * most], 2)

    def test_the_table_has_of_each_set_the_greatest_number(self):
        chance = random.Random(22)
        for _ in range(25):
            accounts = draw_accounts(chance, chance.randint(1, 7), chance.choice((2, 4, 100)))
            payments, table = self.told(accounts)
            worths = others(accounts)
            for number in range(len(table)):
                # A set's lines in a row: as many beginnings come to nought as sets, one left over at the end.
                self.assertEqual(table[number], most_sets([worths[at] for at in set_of(number, len(worths))]))

    def test_all_rows_of_a_sets_lines(self):
        chance = random.Random(220)
        for _ in range(10):
            accounts = draw_accounts(chance, 5, 3)
            worths = others(accounts)
            table = fewest(accounts)[1]
            for number in range(len(table)):
                lines = set_of(number, len(worths))
                most = max(sum(total == 0 for total in itertools.accumulate(worths[at] for at in row))
                           for row in itertools.permutations(lines))
                self.assertEqual(table[number], most)

    def test_all_partings_of_drawn_accounts(self):
        chance = random.Random(221)
        for _ in range(60):
            accounts = draw_accounts(chance, chance.randint(2, 8), chance.choice((2, 3, 6, 50)))
            with self.subTest(accounts):
                self.told(accounts, len(others(accounts)) - most_sets(others(accounts)))

    def test_payments_that_are_tried(self):
        # All payments of so many between the lines, so far as they settle: none fewer do.
        for accounts in ([1, 1, -1, -1], [2, -1, -1, 0], [2, 1, -3], [1, -2, 2, -1], [3, -1, -1, -1], [2, 2, -3, -1]):
            payments, table = self.told(accounts)
            pairs = list(itertools.permutations(range(len(accounts)), 2))
            for many in range(len(payments)):
                for chosen in itertools.product(pairs, repeat=many):
                    for pence in itertools.product(range(1, 4), repeat=many):
                        self.assertFalse(settled(accounts, [pair + (one,) for pair, one in zip(chosen, pence)]))

    def test_within_seconds(self):
        begun = time.monotonic()
        for at in range(20):
            fewest([at + 1, -1, at + 3, -3, 7, -7, 5, -2 * at - 6])
        self.assertLess(time.monotonic() - begun, 3)

    def test_somewhat_beyond_the_limits_nothing_is_raised(self):
        self.told([1, -1] * 5, 5)
        fewest([])
        fewest([5])
        fewest([5, -3])


class LookPayments(unittest.TestCase):
    # Sets {0, 1} and {2, 3, 4} come to nought; line 5 has no account.
    ACCOUNTS = [5, -5, 7, -3, -4, 0]
    PAYMENTS = [(1, 0, 5), (3, 2, 3), (4, 2, 4)]

    def table(self):
        return fewest(self.ACCOUNTS)[1]

    def refused(self, where, thing, accounts=None):
        accounts = self.ACCOUNTS if accounts is None else accounts
        self.assertEqual(look_by_words(accounts, thing), where)
        with self.assertRaises(NoProof, msg=repr(thing)[:200]) as caught:
            look_payments(accounts, thing)
        self.assertEqual(caught.exception.where, where)
        self.assertIs(type(caught.exception.where), str)
        self.assertIsInstance(caught.exception, HouseError)

    def let_by(self, thing, accounts=None):
        accounts = self.ACCOUNTS if accounts is None else accounts
        self.assertIsNone(look_by_words(accounts, thing))
        self.assertIsNone(look_payments(accounts, thing))

    def test_told_ones_are_let_by(self):
        self.let_by(fewest(self.ACCOUNTS))
        self.let_by((self.PAYMENTS, self.table()))
        self.let_by(([], [0]), [0, 0])
        chance = random.Random(23)
        for _ in range(60):
            accounts = draw_accounts(chance, chance.randint(1, 8), chance.choice((2, 6, MOST)))
            self.let_by(fewest(accounts), accounts)

    def test_other_fewest_payments(self):
        for order in itertools.permutations(self.PAYMENTS):
            self.let_by((list(order), self.table()))
        # Who is to get pays on, and who is to pay gets first: as few, and they settle.
        self.let_by(([(1, 0, 5), (3, 4, 3), (4, 2, 7)], self.table()))
        self.let_by(([(0, 1, 3), (2, 0, 10)], [0, 0, 0, 0, 0, 0, 0, 1]), [7, 3, -10])
        self.let_by(([(0, 1, 5), (1, 2, 10)], [0, 0, 0, 0, 0, 0, 0, 1]), [-5, -5, 10])

    def test_payments_by_a_line_without_an_account(self):
        self.refused("many", ([(1, 5, 5), (5, 0, 5), (3, 2, 3), (4, 2, 4)], self.table()))
        self.refused("many", ([(0, 1, 5), (1, 2, 5)], [0, 0, 0, 1]), [-5, 0, 5])

    def test_other_tables(self):
        # A set may have more than its least number, as long as the last one lets as many.
        table = self.table()
        others_let = 0
        for at in range(1, len(table) - 1):
            other = table[:at] + [table[at] + 1] + table[at + 1:]
            if look_by_words(self.ACCOUNTS, (self.PAYMENTS, other)) is None:
                self.let_by((self.PAYMENTS, other))
                others_let += 1
            else:
                self.refused("table", (self.PAYMENTS, other))
        self.assertGreater(others_let, 0)

    def test_greater_tables_let_fewer(self):
        table = self.table()
        self.refused("many", (self.PAYMENTS, table[:-1] + [table[-1] + 1]))
        self.refused("many", (self.PAYMENTS, [0] + [number + 9 for number in table[1:]]))
        self.refused("many", ([(1, 0, 5)], [0, 0, 0, 2]), [5, -5])
        for size in (10 ** 12, 10 ** 59, 10 ** 100):
            self.refused("many", (self.PAYMENTS, table[:-1] + [size]))
            self.refused("many", (self.PAYMENTS, [0] + [size + number for number in table[1:]]))
            self.refused("table", (self.PAYMENTS, [0] + [size] * 31))

    def test_no_payments(self):
        self.let_by(([], [0]), [0])
        self.refused("payments", ([], self.table()))
        self.refused("payments", ([(0, 1, 1)], [0]), [0, 0])
        self.refused("many", ([(0, 1, 1), (1, 0, 1)], [0]), [0, 0])

    def test_paper(self):
        payments, table = self.PAYMENTS, self.table()
        for thing in ([payments, table], (payments,), (), (payments, table, []), (payments, table, None),
                      (tuple(payments), table), (payments, tuple(table)), (None, table), (payments, None), payments,
                      table, ((payments, table),), [(payments, table)], ("", table), (payments, 0)):
            self.refused("paper", thing)

    def test_paper_of_any_things(self):
        for thing in ANY_THINGS:
            self.refused("paper", thing)
            self.refused("paper", (self.PAYMENTS, self.table(), thing))
            if not isinstance(thing, list):
                self.refused("paper", (thing, self.table()))
                self.refused("paper", (self.PAYMENTS, thing))

    def payments_refused(self, *lists):
        for payments in lists:
            self.refused("payments", (payments, self.table()))

    def test_payments_left_out_put_in_or_twice(self):
        for at, row in enumerate(self.PAYMENTS):
            self.payments_refused(self.PAYMENTS[:at] + self.PAYMENTS[at + 1:], self.PAYMENTS + [row])
        self.payments_refused(self.PAYMENTS + [(5, 0, 1)], self.PAYMENTS + [(0, 1, 1)])

    def test_payments_with_any_thing_in_them(self):
        for at, row in enumerate(self.PAYMENTS):
            rows = [list(row), row[:2], row + (1,), (row,), [row], row[::-1], (row[1], row[0], row[2])]
            for inner in range(3):
                rows += [row[:inner] + (thing,) + row[inner + 1:] for thing in ANY_THINGS
                         if not (is_int(thing) and thing == row[inner])]
            for thing in [thing for thing in list(ANY_THINGS) + rows if repr(thing) != repr(row)]:
                self.payments_refused(self.PAYMENTS[:at] + [thing] + self.PAYMENTS[at + 1:])

    def test_places_beyond_the_lines(self):
        self.payments_refused(self.PAYMENTS + [(6, 0, 1), (0, 6, 1)], self.PAYMENTS + [(-1, 0, 1), (0, -1, 1)])
        self.payments_refused(self.PAYMENTS + [(6, 0, 1)], self.PAYMENTS + [(0, 6, 1)], self.PAYMENTS + [(0, 7, 1)])
        # Place -5 would be that of line 1, counted from the end.
        self.payments_refused([(-5, 0, 5)] + self.PAYMENTS[1:], [(1, -6, 5)] + self.PAYMENTS[1:])

    def test_a_line_that_pays_itself(self):
        for at in range(6):
            self.payments_refused(self.PAYMENTS + [(at, at, 1)])

    def test_pence_not_above_0(self):
        self.payments_refused(self.PAYMENTS + [(0, 1, 0)], self.PAYMENTS + [(0, 1, -1), (1, 0, -1)],
                              [(0, 1, -5)] + self.PAYMENTS[1:])

    def test_a_penny_too_few_or_too_many(self):
        for at, (payer, payee, pence) in enumerate(self.PAYMENTS):
            for other in (pence - 1, pence + 1, pence + 10 ** 60):
                self.payments_refused(self.PAYMENTS[:at] + [(payer, payee, other)] + self.PAYMENTS[at + 1:])

    def test_truths_among_places_pence_and_the_table(self):
        accounts, table = [-1, 1], [0, 0, 0, 1]
        self.let_by(([(0, 1, 1)], table), accounts)
        for row in ((False, 1, 1), (0, True, 1), (0, 1, True)):
            self.assertEqual(row, (0, 1, 1))
            self.refused("payments", ([row], table), accounts)
        for at in range(4):
            other = table[:at] + [bool(table[at])] + table[at + 1:]
            self.assertEqual(other, table)
            self.refused("table", ([(0, 1, 1)], other), accounts)
        self.refused("table", ([], [False]), [0])

    def tables_refused(self, *tables):
        for table in tables:
            self.refused("table", (self.PAYMENTS, table))

    def test_tables_of_another_size(self):
        table = self.table()
        self.tables_refused([], table[:-1], table[1:], table + [2], [0] + table, table * 2, table[:16], [0])

    def test_tables_with_any_thing_in_them(self):
        for at in range(32):
            for thing in ANY_THINGS:
                if not is_int(thing) or thing < 0:
                    self.tables_refused(self.table()[:at] + [thing] + self.table()[at + 1:])

    def test_a_number_for_the_empty_set(self):
        for number in (1, -1, 10 ** 59):
            self.tables_refused([number] + self.table()[1:])
        self.tables_refused([number + 1 for number in self.table()], [number - 1 for number in self.table()])

    def test_a_number_below_that_of_a_set_one_line_less(self):
        table = self.table()
        for at in range(1, 32):
            self.tables_refused(table[:at] + [table[at] - 1] + table[at + 1:])

    def test_each_single_line_counts(self):
        # The number of a set is to be no less than that of the set without any one of its lines.
        accounts = [1, 2, -3]
        payments = [(2, 0, 1), (2, 1, 2)]
        self.let_by((payments, [0, 0, 0, 0, 0, 0, 0, 1]), accounts)
        for single in (1, 2, 4):
            table = [0, 0, 0, 0, 0, 0, 0, 1]
            table[single] = 1
            self.refused("table", (payments, table), accounts)

    def test_many(self):
        # Four payments settle, too, but three do.
        self.refused("many", ([(1, 2, 5), (3, 0, 3), (4, 0, 2), (4, 2, 2)], self.table()))
        self.refused("many", ([(1, 0, 4), (1, 0, 1), (3, 2, 3), (4, 2, 4)], self.table()))
        self.refused("many", (self.PAYMENTS + [(0, 1, 1), (1, 0, 1)], self.table()))

    def test_the_first_of_two_faults(self):
        payments, table = self.PAYMENTS, self.table()
        self.refused("paper", [payments[1:], table[1:]])
        self.refused("paper", (payments[1:], None))
        self.refused("paper", (None, table[1:]))
        self.refused("payments", (payments[1:], table[1:]))
        self.refused("payments", (payments + [None], []))
        self.refused("payments", (payments[1:], table[:-1] + [99]))
        self.refused("table", (payments + [(0, 1, 1), (1, 0, 1)], table[1:]))
        self.refused("table", (payments + [(0, 1, 1), (1, 0, 1)], [None] * 32))
        self.refused("many", (payments + [(0, 1, 1), (1, 0, 1)], table))

    def test_drawn_things_put_otherwise(self):
        chance = random.Random(230)
        found = dict.fromkeys(("payments", "table", "many", None), 0)
        for _ in range(800):
            accounts = draw_accounts(chance, chance.randint(2, 6), chance.choice((2, 5)))
            payments, table = fewest(accounts)
            for _ in range(chance.choice((1, 1, 2))):
                spoil(chance, accounts, payments, table)
            where = look_by_words(accounts, (payments, table))
            found[where] += 1
            with self.subTest(accounts=accounts, thing=(payments, table)):
                if where is None:
                    self.let_by((payments, table), accounts)
                else:
                    self.refused(where, (payments, table), accounts)
        self.assertGreater(min(found.values()), 30)


def spoil(chance, accounts, payments, table):
    """Something in them put otherwise, left out or put in."""
    drawn = chance.random()
    if drawn < 0.4:
        table[chance.randrange(len(table))] += chance.choice((-1, 1, 1))
    elif drawn < 0.6 and payments:
        payments[chance.randrange(len(payments))] = (chance.randrange(len(accounts)), chance.randrange(len(accounts)), 1)
    elif drawn < 0.8 and payments:
        at = chance.randrange(len(payments))
        payer, payee, pence = payments[at]
        via = chance.choice([place for place in range(len(accounts)) if place not in (payer, payee)] or [payee])
        payments[at:at + 1] = [(payer, via, pence), (via, payee, pence)] if via != payee else [payments[at]]
    elif drawn < 0.9:
        table.append(table[-1])
    elif len(accounts) > 1:
        payments += [(0, 1, 1), (1, 0, 1)]


class Carried(unittest.TestCase):
    def told(self, accounts, stopped, wanted):
        told = carried(accounts, stopped)
        self.assertEqual(told, wanted)
        self.assertTrue(all(map(is_int, told)))
        self.assertEqual(sum(told), sum(accounts))

    def test_none_stopped(self):
        self.told([0], [], [0])
        self.told([5, -5], [], [5, -5])
        self.told([0, 0, 0], [], [0, 0, 0])

    def test_all_stopped(self):
        self.told([5, -5], [0, 1], [0, 0])
        self.told([6, -5, 3, -4], [0, 1, 2, 3], [0, 0, 0, 0])
        self.told([0, 0], [0, 1], [0, 0])

    def test_one_stopped_that_owes(self):
        self.told([5, -5], [1], [0, 0])
        self.told([-5, 5], [0], [0, 0])
        self.told([10, 20, -30, 0], [2], [0, 0, 0, 0])
        # 3 of 10 and 20: 1 and 2; and the other payer still pays.
        self.told([10, 20, -3, -27], [2], [9, 18, 0, -27])

    def test_what_is_left_goes_to_the_greatest_rests(self):
        # 10 of 1, 1, 31: 0, 0, 9 with rests 10, 10, 13; the first of the equal ones gives none.
        self.told([1, 1, 31, -10, -23], [3], [1, 1, 21, 0, -23])
        # 2 of 1, 1, 1: the two earlier ones give.
        self.told([1, 1, 1, -2, -1], [3], [0, 0, 1, 0, -1])

    def test_a_stopped_line_that_is_to_get(self):
        self.told([5, -5], [0], [5, -5])
        self.told([5, 5, -10], [0, 2], [0, 0, 0])
        self.told([0, 5, -5], [0], [0, 5, -5])

    def test_several_stopped_ones_one_after_the_other(self):
        # First 4 of 10 and 5: 3 and 1; then 6 of 7 and 4: 4 and 2.
        self.told([-4, 10, -6, 5, -5], [0, 2], [0, 3, 0, 2, -5])
        self.assertEqual((parts(4, [10, 5]), parts(6, [7, 4])), ([3, 1], [4, 2]))

    def test_a_later_one_that_has_given_to_the_earlier(self):
        # Line 2 is stopped, too, and gives to line 0; it has something left, and gives to line 3, too.
        self.told([-6, 3, 9, -4, -2], [0, 2, 3], [0, 0, 2, 0, -2])
        self.assertEqual((parts(6, [3, 9]), parts(4, [1, 5])), ([2, 4], [1, 3]))

    def test_none_falls_below_0(self):
        chance = random.Random(24)
        for _ in range(300):
            accounts = draw_accounts(chance, chance.randint(1, 8), chance.choice((2, 9, 10 ** 9, MOST)))
            stopped = sorted(chance.sample(range(len(accounts)), chance.randint(0, len(accounts))))
            told = carried(accounts, stopped)
            self.assertEqual(told, carried_by_words(accounts, stopped))
            self.assertEqual(sum(told), 0)
            for at, (account, behind) in enumerate(zip(accounts, told)):
                if at in stopped:
                    self.assertGreaterEqual(behind, 0)
                if account >= 0:
                    self.assertTrue(0 <= behind <= account)
                elif at not in stopped:
                    self.assertEqual(behind, account)

    def test_parts_of_accounts_beyond_10_to_the_9th(self):
        self.told([MOST, -MOST], [1], [0, 0])
        # MOST + 1 of MOST and 2 * MOST: a third and two thirds, and a penny by the greater rest.
        self.told([MOST, 2 * MOST, -MOST - 1, 1 - 2 * MOST], [2],
                  [MOST - (MOST + 1) // 3 - 1, 2 * MOST - (2 * MOST + 2) // 3, 0, 1 - 2 * MOST])
        self.told([10 ** 30, -(10 ** 30)], [1], [0, 0])
        self.told([10 ** 30, 10 ** 30, -(10 ** 30) - 1, 1 - 10 ** 30], [2],
                  [10 ** 30 - 5 * 10 ** 29 - 1, 5 * 10 ** 29, 0, 1 - 10 ** 30])

    def test_the_payments_of_what_comes(self):
        told = carried([-6, 3, 9, -4, -2], [0, 3])
        self.assertEqual(fewest(told)[0], [(4, 2, 2)])


def carried_by_words(accounts, stopped):
    """Point 24, penny by penny."""
    told = list(accounts)
    for at in stopped:
        lacks = -told[at]
        if lacks <= 0:
            continue
        whole = sum(account for account in told if account > 0)
        rests = []
        given = {}
        for place, account in enumerate(told):
            if account > 0:
                given[place], rest = divmod(lacks * account, whole)
                rests.append((-rest, place))
        for rest, place in sorted(rests)[:lacks - sum(given.values())]:
            given[place] += 1
        for place, pence in given.items():
            told[place] -= pence
            told[at] += pence
    return told


class HandedIn(unittest.TestCase):
    """Point 2: what is handed in stays, what is told is new and the asker's own."""

    def test_it_is_unchanged_behind_the_call(self):
        accounts, stopped = [5, -5, 7, -3, -4, 0], [1, 3]
        thing = fewest(accounts)
        kept = copy.deepcopy((accounts, stopped, thing))
        look_payments(accounts, thing)
        carried(accounts, stopped)
        self.assertEqual((accounts, stopped, thing), kept)

    def test_any_thing_is_unchanged_behind_the_call(self):
        payments, table = fewest([5, -5, 0])
        things = [(payments, table[::-1]), (payments * 2, table), ([[]], [[]]), [[], []], (payments, [None] * 4)]
        kept = copy.deepcopy(things)
        for thing in things:
            self.assertRaises(NoProof, look_payments, [5, -5, 0], thing)
        self.assertEqual(things, kept)

    def test_what_is_told_is_the_askers_own(self):
        for accounts in ([5, -5, 7, -3, -4, 0], [0], [0, 0]):
            told, other = fewest(accounts), fewest(accounts)
            kept = copy.deepcopy(told)
            for half in told:
                half.append("more")
                half[0] = "less"
            self.assertEqual(other, kept)
            self.assertEqual(fewest(accounts), kept)

    def test_carried_tells_a_new_list(self):
        for stopped in ([], [1], [0, 1]):
            accounts = [5, -5]
            told = carried(accounts, stopped)
            kept = list(told)
            self.assertIsNot(told, accounts)
            told[0] = 99
            self.assertEqual(accounts, [5, -5])
            self.assertEqual(carried(accounts, stopped), kept)

    def test_accounts_changed_later_change_nothing_told(self):
        accounts = [5, -5]
        told, other = fewest(accounts), carried(accounts, [])
        accounts[0] = 9
        self.assertEqual((told, other), (([(1, 0, 5)], [0, 0, 0, 1]), [5, -5]))


if __name__ == "__main__":
    unittest.main()
