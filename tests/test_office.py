"""Points 12 (the office's own things) and 26 to 29, and points 2 and 3 over the office."""

import copy
import random
import time
import unittest

from samples import (
    ANY_THINGS, NET, RULES, WAGONS, WAYS, answer, bill, claim, draw_house, draw_papers, gone, names, ruling, toll,
)
from throughlines import errors
from throughlines.books import look_book
from throughlines.hire import astray, wagon_days
from throughlines.histories import history, perhaps_of
from throughlines.office import Office
from throughlines.papers import fault, standing
from throughlines.payments import carried, fewest
from throughlines.reckoning import reckoned

HOUSE = (NET, WAYS, WAGONS, RULES)
# What is no whole number, no month, no line and no wagon, but raises nothing besides the refusal.
ODD = tuple(thing for thing in ANY_THINGS if not (type(thing) is int and thing >= 0) and thing != "north")


def office_of(*papers, house=HOUSE):
    office = Office(*house)
    for paper in papers:
        assert office.take(paper) == "new"
    return office


def closed_to(month, office=None):
    """An office whose open month is that one."""
    office = office or Office(*HOUSE)
    while office.open_month() < month:
        office.close()
    return office


def state_of(office):
    """All that an office tells but for pennies and claims, which are asked by numbers."""
    months = range(1, office.open_month())
    return copy.deepcopy((
        office.open_month(), office.papers(), office.entries(0), [office.entries(month) for month in months],
        [office.closed(month) for month in months], [office.account(line) for line in office_lines(office)],
        office.perhaps(), office.astray_ones(), [office.claim_state(number) for number in range(1, 12)],
    ))


def office_lines(office):
    """The lines that it knows, of those that the tests here have."""
    found = []
    for line in NET[0] + names(26):
        try:
            office.account(line)
        except errors.NoLine:
            continue
        found.append(line)
    return found


def standing_in(book):
    """What stands: the entries that turn none and that none turns."""
    turned = [entry[3] for entry in book if entry[3]]
    return {entry[2]: entry[4] for entry in book if entry[3] == 0 and entry[0] not in turned}


class Looked(unittest.TestCase):
    def refused(self, error, ask, *things):
        with self.assertRaises(errors.HouseError, msg=repr(things)[:200]) as caught:
            ask(*things)
        self.assertIs(type(caught.exception), error, repr(things)[:200])
        return caught.exception

    def is_book(self, book):
        """Point 26, entry by entry."""
        self.assertIs(type(book), list)
        for at, entry in enumerate(book):
            self.assertIs(type(entry), tuple)
            number, month, key, turns, amounts = entry
            self.assertEqual(number, at + 1)
            self.assertEqual(sum(amounts), 0)
            self.assertTrue(any(amounts))
            if at:
                self.assertGreaterEqual(month, book[at - 1][1])
            if turns:
                self.assertLess(turns, number)
                elder = book[turns - 1]
                self.assertEqual((elder[2], elder[3]), (key, 0))
                self.assertEqual(elder[4], tuple(-pence for pence in amounts))
                self.assertNotIn(turns, [earlier[3] for earlier in book[:at]])
            else:
                self.assertNotIn(key, standing_in(book[:at]))


class Made(Looked):
    """Point 12."""

    def test_what_it_is_made_of(self):
        for house in (HOUSE, (NET, [], WAGONS, RULES), (NET, WAYS, [], RULES), (NET, [], [], RULES),
                      ((("a",), (), (), ()), [], [], (0, 0, 0, (0,)))):
            office = Office(*house)
            self.assertEqual((office.open_month(), office.papers(), office.entries(0)), (1, [], []))

    def test_no_net(self):
        for thing in ANY_THINGS + (NET[:3], NET[::-1], list(NET), NET + ((),), (list(NET[0]),) + NET[1:]):
            self.refused(errors.NoNet, Office, thing, WAYS, WAGONS, RULES)

    def test_no_ways(self):
        odd = [thing for thing in ANY_THINGS if thing != []]
        for thing in odd + [[one] for one in ANY_THINGS] + [WAYS + [one] for one in ANY_THINGS]:
            self.refused(errors.NoWay, Office, NET, thing, WAGONS, RULES)
        for thing in (tuple(WAYS), WAYS[0], [list(WAYS[0])], [WAYS[0][:2]], [WAYS[0] + ("york",)], [("york", "hull")],
                      [("york",)], [WAYS], WAYS + [("selby", "york")]):
            self.refused(errors.NoWay, Office, NET, thing, WAGONS, RULES)

    def test_how_many_ways(self):
        Office(NET, [WAYS[0]] * 24, WAGONS, RULES)
        Office(NET, WAYS * 6, WAGONS, RULES)
        self.refused(errors.NoWay, Office, NET, [WAYS[0]] * 25, WAGONS, RULES)

    def test_no_wagons(self):
        odd = [thing for thing in ANY_THINGS if thing != []]
        for thing in odd + [[one] for one in ANY_THINGS] + [WAGONS + [one] for one in ANY_THINGS]:
            self.refused(errors.NoWagon, Office, NET, WAYS, thing, RULES)
        for thing in (tuple(WAGONS), [list(WAGONS[0])], [(20, "west")], [(20, "york")], [("north", 20)], [(20,)], [20],
                      [(20, "north", 1)], [(0, "north")], [(10000, "north")], [(-1, "north")], [(True, "north")],
                      [("20", "north")], [(20, ["north"])], [(20, ("north",))], [(20, 0)]):
            self.refused(errors.NoWagon, Office, NET, WAYS, thing, RULES)

    def test_wagons_rise(self):
        Office(NET, WAYS, [(1, "north"), (2, "north"), (9999, "north")], RULES)
        for numbers in ((2, 1), (1, 1), (1, 3, 2), (1, 2, 2), (9999, 1)):
            self.refused(errors.NoWagon, Office, NET, WAYS, [(number, "north") for number in numbers], RULES)

    def test_how_many_wagons(self):
        wagons = [(number, "north") for number in range(1, 26)]
        Office(NET, WAYS, wagons[:24], RULES)
        self.refused(errors.NoWagon, Office, NET, WAYS, wagons, RULES)

    def test_no_rules(self):
        for thing in ANY_THINGS + (list(RULES), RULES[:3], RULES + (0,), (RULES,), RULES[::-1]):
            self.refused(errors.NoRules, Office, NET, WAYS, WAGONS, thing)
        for at in range(4):
            for thing in ANY_THINGS + (-1, 10 ** 9 + 1, [0, 0, 0], (0, 0), (0, 0, 0, 0), (0, 0, True), (0, 0, -1),
                                       (0, 10 ** 9 + 1, 0), (None, 0, 0), ("0", 0, 0)):
                if type(thing) is int and 0 <= thing <= 30 or at in (0, 2) and thing == 9999:
                    continue
                self.refused(errors.NoRules, Office, NET, WAYS, WAGONS, RULES[:at] + (thing,) + RULES[at + 1:])

    def test_bounds_of_rules(self):
        most = 10 ** 9
        for rules in ((0, 0, 0, (0, 0, 0)), (most, 30, most, (most, most, most)), (1, 1, 1, (0, most, 1))):
            Office(NET, WAYS, WAGONS, rules)
        for rules in ((most + 1, 0, 0, (0, 0, 0)), (0, 31, 0, (0, 0, 0)), (0, 0, most + 1, (0, 0, 0)),
                      (0, 0, 0, (0, 0, most + 1)), (-1, 0, 0, (0, 0, 0)), (0, -1, 0, (0, 0, 0)), (0, 0, -1, (0, 0, 0)),
                      (True, 0, 0, (0, 0, 0)), (0, True, 0, (0, 0, 0)), (0, 0, False, (0, 0, 0)), (0, 0, 0, (0, 0))):
            self.refused(errors.NoRules, Office, NET, WAYS, WAGONS, rules)

    def test_the_first_that_is_wrong(self):
        bad = (None, [None], [None], None)
        order = (errors.NoNet, errors.NoWay, errors.NoWagon, errors.NoRules)
        for wrong in range(1, 16):
            house = [bad[at] if wrong >> at & 1 else HOUSE[at] for at in range(4)]
            first = min(at for at in range(4) if wrong >> at & 1)
            self.refused(order[first], Office, *house)

    def test_ways_of_another_net(self):
        net = (NET[0], NET[1], NET[2], NET[3][1:])
        self.refused(errors.NoWay, Office, net, WAYS, WAGONS, RULES)
        Office(net, WAYS[:2], WAGONS, RULES)


class Taken(Looked):
    """Point 27."""

    def test_new_and_double(self):
        office = Office(*HOUSE)
        papers = [bill(day=30), toll(1, "north", 400, 420, 5), claim(), answer(1, "south"), ruling(1, "seals"),
                  ("withdrawal", 1, 1, 3), gone(1, "selby", "south", 30, wagon=20)]
        for paper in papers:
            self.assertEqual(office.take(paper), "new")
            self.assertEqual(office.take(paper), "double")
        for paper in papers:
            self.assertEqual(office.take(paper), "double")
        self.assertEqual(office.papers(), papers)

    def test_unlike_papers_of_one_number_are_new(self):
        office = office_of(bill(day=1))
        for paper in (bill(day=2), bill(day=1, edition=2), bill(day=1, paid=99)):
            self.assertEqual(office.take(paper), "new")
        self.assertEqual(office.take(bill(day=1)), "double")

    def test_double_behind_a_close(self):
        office = office_of(bill(day=1))
        office.close()
        self.assertEqual(office.take(bill(day=1)), "double")
        self.assertEqual(office.papers(), [bill(day=1)])

    def test_no_paper_with_its_fault(self):
        office = Office(*HOUSE)
        things = list(ANY_THINGS)
        for paper in (bill(day=1), toll(1, "north", 4, 9, 5), claim(), answer(1, "south"), ruling(1, "line", "east"),
                      ("withdrawal", 1, 1, 3), gone(1, "selby", "south", 1)):
            for at in range(len(paper)):
                things += [paper[:at] + (thing,) + paper[at + 1:] for thing in (None, True, -1, "x", [], ())]
            things += [paper[:-1], paper + (1,), list(paper), (paper,)]
        for thing in things:
            wanted = fault(NET, WAYS, WAGONS, thing)
            self.assertGreaterEqual(wanted, 0)
            caught = self.refused(errors.NoPaper, office.take, thing)
            self.assertEqual(caught.where, wanted)
            self.assertIs(type(caught.where), int)
        self.assertEqual(office.papers(), [])

    def test_some_faults(self):
        office = Office(*HOUSE)
        for thing, where in (
            (("letter", 1, 1), 0), (bill(0), 1), (bill(edition=0), 2), (bill(day=421), 3), (bill(way=4), 4),
            (bill(paid=-1), 5), (bill(cartage=(0, -1)), 7), (bill(wagon=21), 8), (toll(1, "north", 5, 4, 1), 5),
            (ruling(1, "line", "west"), 4), (gone(1, "selby", "east", 1), 7), (True, 0), (bill(True), 1),
        ):
            self.assertEqual(self.refused(errors.NoPaper, office.take, thing).where, where)

    def test_not_yet(self):
        office = Office(*HOUSE)
        for month in range(1, 14):
            last = 30 * month
            for later in (last + 1, last + 2, 420):
                self.refused(errors.NotYet, office.take, bill(month, day=later))
                self.refused(errors.NotYet, office.take, gone(month, "selby", "south", later))
            self.assertEqual(office.take(bill(month, day=last)), "new")
            self.assertEqual(office.take(gone(month, "selby", "south", last)), "new")
            self.assertEqual(office.take(gone(month + 100, "selby", "south", 1)), "new")
            office.close()
        self.assertEqual(office.take(bill(99, day=420)), "new")

    def test_other_papers_come_in_any_month(self):
        office = Office(*HOUSE)
        self.assertEqual(office.take(toll(1, "north", 420, 420, 5)), "new")
        self.assertEqual(office.take(claim()), "new")

    def test_too_late(self):
        office = closed_to(15, office_of(bill(day=1), claim()))
        kept = state_of(office)
        for paper in (bill(day=1), bill(day=420), claim(), claim(8), toll(1, "north", 1, 420, 5)):
            self.refused(errors.TooLate, office.take, paper)
        self.assertEqual(state_of(office), kept)

    def full(self, house=HOUSE):
        return office_of(*[claim(number) for number in range(1, 401)], house=house)

    def test_too_many(self):
        office = self.full()
        self.assertEqual(len(office.papers()), 400)
        self.refused(errors.TooMany, office.take, claim(401))
        self.refused(errors.TooMany, office.take, claim(1, pence=99))
        for number in (1, 200, 400):
            self.assertEqual(office.take(claim(number)), "double")
        self.refused(errors.TooMany, office.take, bill(day=1))
        office.close()
        self.refused(errors.TooMany, office.take, claim(401))
        self.assertEqual(office.take(claim(400)), "double")
        self.assertEqual(office.papers(), [claim(number) for number in range(1, 401)])

    def test_the_four_hundredth_is_taken(self):
        office = office_of(*[claim(number) for number in range(1, 400)])
        self.assertEqual(office.take(claim(1)), "double")
        self.assertEqual(office.take(claim(400)), "new")
        self.refused(errors.TooMany, office.take, claim(401))

    def test_the_first_of_two_refusals(self):
        office = self.full()
        self.refused(errors.NoPaper, office.take, claim(0))
        self.refused(errors.NotYet, office.take, bill(day=31))
        self.refused(errors.NoPaper, office.take, bill(day=31, wagon=21))
        closed_to(15, office)
        self.refused(errors.NoPaper, office.take, claim(0))
        self.refused(errors.TooLate, office.take, claim(1))
        self.refused(errors.TooLate, office.take, claim(401))
        self.refused(errors.TooLate, office.take, bill(day=420))

    def test_what_is_refused_changes_nothing(self):
        office = office_of(bill(day=1), claim(), answer(1, "south"))
        office.close()
        kept = state_of(office)
        for thing in (None, claim(0), bill(8, day=61), gone(1, "selby", "south", 90)):
            self.assertRaises(errors.HouseError, office.take, thing)
        self.assertEqual(state_of(office), kept)


class Closed(Looked):
    """Points 26 and 28."""

    def test_nothing_due(self):
        office = Office(*HOUSE)
        self.assertEqual(office.close(), [])
        self.assertEqual((office.open_month(), office.entries(0), office.entries(1)), (2, [], []))
        self.assertEqual(office.closed(1), ([0, 0, 0], [0, 0, 0], []))

    def test_booked(self):
        office = office_of(bill(day=1))
        self.assertEqual(office.entries(0), [])
        told = office.close()
        self.assertEqual(sorted(told), [("north", "east", 70), ("north", "south", 20)])
        entry = (1, 1, ("waybill", 7), 0, (-90, 20, 70))
        self.assertEqual(office.entries(0), [entry])
        self.assertEqual(office.entries(1), [entry])
        self.assertEqual(office.closed(1), ([-90, 20, 70], [-90, 20, 70], told))

    def test_nothing_new(self):
        office = office_of(bill(day=1))
        office.close()
        self.assertEqual(office.close(), [])
        office.take(bill(day=1))
        self.assertEqual(office.close(), [])
        self.assertEqual(len(office.entries(0)), 1)
        self.assertEqual(office.closed(3), ([0, 0, 0], [0, 0, 0], []))

    def test_turned_and_booked_anew(self):
        office = office_of(bill(day=1))
        office.close()
        office.take(bill(day=1, paid=200, edition=2))
        told = office.close()
        self.assertEqual(office.entries(2), [(2, 2, ("waybill", 7), 1, (90, -20, -70)),
                                             (3, 2, ("waybill", 7), 0, (-180, 40, 140))])
        self.assertEqual(sorted(told), [("north", "east", 70), ("north", "south", 20)])
        self.assertEqual(office.closed(2)[0], [-90, 20, 70])

    def test_turned_alone(self):
        # A second one of the same edition: they clash, and none stands.
        office = office_of(bill(day=1))
        office.close()
        office.take(bill(day=1, paid=200))
        told = office.close()
        self.assertEqual(office.entries(2), [(2, 2, ("waybill", 7), 1, (90, -20, -70))])
        self.assertEqual(sorted(told), [("east", "north", 70), ("south", "north", 20)])

    def test_a_key_that_comes_goes_and_comes(self):
        office = office_of(bill(day=1))
        office.close()
        office.take(bill(day=1, paid=200))
        office.close()
        office.close()
        office.take(bill(day=1, paid=100, edition=2))
        office.close()
        office.take(bill(day=1, paid=0, edition=3))
        office.close()
        office.take(bill(day=1, paid=300, edition=4))
        office.close()
        self.assertEqual(office.entries(0), [
            (1, 1, ("waybill", 7), 0, (-90, 20, 70)), (2, 2, ("waybill", 7), 1, (90, -20, -70)),
            (3, 4, ("waybill", 7), 0, (-90, 20, 70)), (4, 5, ("waybill", 7), 3, (90, -20, -70)),
            (5, 6, ("waybill", 7), 0, (-270, 60, 210)),
        ])
        self.is_book(office.entries(0))

    def test_the_same_amounts_again_are_not_turned(self):
        office = office_of(bill(day=1))
        office.close()
        # A newer edition by which the same is due.
        office.take(bill(day=2, edition=2))
        self.assertEqual(office.close(), [])
        self.assertEqual(len(office.entries(0)), 1)

    def test_in_the_order_of_the_reckoning(self):
        office = office_of(bill(9, day=1), bill(10, day=1), claim(3, of=9), answer(1, "south"),
                           gone(1, "selby", "south", 1, wagon=20), gone(2, "selby", "north", 30, wagon=20))
        office.close()
        self.assertEqual([entry[2] for entry in office.entries(0)],
                         [("waybill", 9), ("waybill", 10), ("claim", 3), ("hire", 20, 1)])
        # Turned ones stand among the others by their keys.
        for paper in (bill(9, day=1, paid=0, edition=2), bill(7, day=1), claim(3, of=9, pence=7, edition=2),
                      claim(2, of=10), answer(2, "east", of=2), gone(3, "selby", "south", 20, wagon=30),
                      gone(2, "selby", "north", 29, wagon=20)[:2] + (2,) + gone(2, "selby", "north", 29, wagon=20)[3:]):
            office.take(paper)
        office.close()
        self.assertEqual([(entry[2], entry[3]) for entry in office.entries(2)], [
            (("waybill", 7), 0), (("waybill", 9), 1), (("claim", 2), 0), (("claim", 3), 3), (("claim", 3), 0),
            (("hire", 20, 1), 4), (("hire", 20, 1), 0),
        ])
        self.is_book(office.entries(0))

    def test_wagons_and_months_of_hire_in_order(self):
        rows = [gone(1, "selby", "south", 1, wagon=20), gone(2, "selby", "north", 62, wagon=20),
                gone(3, "crewe", "south", 1, wagon=9999), gone(4, "crewe", "east", 62, wagon=9999)]
        office = closed_to(3)
        for row in rows:
            office.take(row)
        office.close()
        self.assertEqual([entry[2] for entry in office.entries(3)],
                         [("hire", 20, 1), ("hire", 20, 2), ("hire", 20, 3),
                          ("hire", 9999, 1), ("hire", 9999, 2), ("hire", 9999, 3)])
        self.assertEqual([entry[0] for entry in office.entries(3)], [1, 2, 3, 4, 5, 6])

    def test_hire_that_grows_by_later_returns(self):
        office = office_of(gone(1, "selby", "south", 28, wagon=20))
        office.close()
        self.assertEqual(office.entries(1), [])
        office.take(gone(2, "selby", "north", 33, wagon=20))
        office.close()
        self.assertEqual(office.entries(2), [(1, 2, ("hire", 20, 1), 0, (3, -3, 0)), (2, 2, ("hire", 20, 2), 0, (6, -6, 0))])

    def test_months_accounts_are_of_its_own_entries(self):
        office = office_of(bill(day=1))
        office.close()
        office.take(bill(8, day=1, paid=0, collected=100))
        office.close()
        self.assertEqual(office.closed(1)[0], [-90, 20, 70])
        self.assertEqual(office.closed(2)[0], [10, 20, -30])
        self.assertEqual([office.account(line) for line in NET[0]], [-80, 40, 40])

    def test_numbers_count_on(self):
        office = Office(*HOUSE)
        for month in range(1, 15):
            office.take(bill(month, day=30 * month))
            office.take(bill(1, day=1, paid=100 + month, edition=month))
            office.close()
        book = office.entries(0)
        self.assertEqual([entry[0] for entry in book], list(range(1, len(book) + 1)))
        self.assertEqual(book, [entry for month in range(1, 15) for entry in office.entries(month)])
        self.is_book(book)

    def test_the_fourteenth_month_and_behind_it(self):
        office = closed_to(14, office_of(bill(day=1)))
        office.take(bill(8, day=420))
        told = office.close()
        self.assertEqual(sorted(told), [("north", "east", 70), ("north", "south", 20)])
        self.assertEqual(office.open_month(), 15)
        kept = state_of(office)
        for _ in range(3):
            self.refused(errors.TooLate, office.close)
        self.assertEqual(state_of(office), kept)
        self.assertEqual(office.open_month(), 15)

    def test_a_stopped_line_that_owes(self):
        office = office_of(bill(day=1))
        self.assertIsNone(office.stop("north"))
        self.assertEqual(office.close(), [])
        self.assertEqual(office.closed(1), ([-90, 20, 70], [0, 0, 0], []))
        # What stands booked is what is due, whoever is stopped.
        self.assertEqual(office.account("north"), -90)

    def test_a_stopped_line_for_this_close_and_all_later_ones(self):
        office = office_of(bill(day=1))
        told = office.close()
        office.stop("north")
        self.assertEqual(office.closed(1), ([-90, 20, 70], [-90, 20, 70], told))
        office.take(bill(8, day=1))
        office.take(bill(9, way=3, day=1, paid=60))
        self.assertEqual(office.close(), [])
        office.take(bill(10, day=1))
        self.assertEqual(office.close(), [])
        self.assertEqual(office.closed(3)[:2], ([-90, 20, 70], [0, 0, 0]))

    def test_a_stopped_line_that_is_to_get(self):
        office = office_of(bill(day=1))
        office.stop("south")
        self.assertEqual(sorted(office.close()), [("north", "east", 70), ("north", "south", 20)])

    def test_several_stopped_lines(self):
        # North and south owe; both are stopped, south first.
        office = office_of(bill(1, day=1), bill(2, day=1, way=3, paid=10), claim(1, of=2), answer(1, "south", of=1))
        office.stop("south")
        office.stop("north")
        office.close()
        accounts, borne, payments = office.closed(1)
        self.assertEqual(borne, carried(accounts, [0, 1]))
        self.assertTrue(accounts[0] < 0 and accounts[1] < 0)
        self.assertEqual((borne, payments), ([0, 0, 0], []))

    def test_a_line_stopped_twice(self):
        office = Office(*HOUSE)
        office.stop("south")
        self.refused(errors.Stopped, office.stop, "south")
        office.close()
        self.refused(errors.Stopped, office.stop, "south")
        self.assertIsNone(office.stop("north"))
        self.refused(errors.Stopped, office.stop, "north")
        self.assertIsNone(office.stop("east"))

    def test_what_is_no_line_is_not_stopped(self):
        office = Office(*HOUSE)
        for thing in ODD + ("west", "york", "selby", "North", 0, 1, ["north"], ("north",), NET[0]):
            self.refused(errors.NoLine, office.stop, thing)
        for line in NET[0]:
            office.stop(line)
            self.refused(errors.NoLine, office.stop, "west")

    def test_a_line_is_stopped_behind_the_last_month_too(self):
        office = closed_to(15)
        self.assertIsNone(office.stop("north"))
        self.refused(errors.Stopped, office.stop, "north")

    def test_payments_are_the_fewest(self):
        # Two sets of two: north and south, and two lines of another way.
        net = (("a", "b", "c", "d"), (("sa", "a"), ("sb", "b"), ("sc", "c"), ("sd", "d")),
               (("ab", ("a", "b")), ("cd", ("c", "d"))),
               (("sa", "ab", "a", 1), ("ab", "sb", "b", 1), ("sc", "cd", "c", 1), ("cd", "sd", "d", 1)))
        house = (net, [("sa", "ab", "sb"), ("sc", "cd", "sd")], [(1, "a")], (0, 0, 0, (0, 0, 0, 0)))
        office = office_of(bill(1, day=1, way=0, paid=10, wagon=1), bill(2, day=1, way=1, paid=10, wagon=1), house=house)
        self.assertEqual(sorted(office.close()), [("a", "b", 5), ("c", "d", 5)])

    def test_like_accounts_like_payments(self):
        first = office_of(bill(day=1, paid=60, collected=40), bill(8, day=1))
        second = office_of(bill(9, day=2, paid=160, collected=40))
        self.assertEqual((first.close(), first.closed(1)), (second.close(), second.closed(1)))

    def test_drawn_closes(self):
        chance = random.Random(28)
        for _ in range(60):
            house = draw_house(chance)
            office = Office(*house)
            papers = draw_papers(chance, house, chance.randint(0, 60), 60)
            closed_to(3, office)
            stopped = []
            while papers:
                for paper in papers[:10]:
                    office.take(paper)
                del papers[:10]
                if chance.random() < 0.4:
                    line = chance.choice([line for line in house[0][0] if line not in stopped] or [None])
                    if line:
                        office.stop(line)
                        stopped.append(line)
                month, before = office.open_month(), office.entries(0)
                told = office.close()
                book = office.entries(0)
                self.is_book(book)
                self.assertEqual(book[:len(before)], before)
                self.assertEqual(book[len(before):], office.entries(month))
                accounts, borne, payments = office.closed(month)
                self.assertEqual(accounts, [sum(entry[4][at] for entry in book[len(before):])
                                            for at in range(len(house[0][0]))])
                places = [at for at, line in enumerate(house[0][0]) if line in stopped]
                self.assertEqual(borne, carried(accounts, places))
                self.assertEqual(payments, told)
                lines = house[0][0]
                self.assertEqual(told, [(lines[payer], lines[payee], pence) for payer, payee, pence in fewest(borne)[0]])


class Told(Looked):
    """Point 29."""

    def test_open_month(self):
        office = Office(*HOUSE)
        for month in range(1, 15):
            self.assertEqual(office.open_month(), month)
            self.assertIs(type(office.open_month()), int)
            office.close()
        self.assertEqual(office.open_month(), 15)

    def test_months(self):
        office = office_of(bill(day=1))
        self.assertEqual(office.entries(0), [])
        for month in (1, 2, 14, 15, -1):
            self.refused(errors.NoMonth, office.entries, month)
        for month in (0, 1, 2, 14, 15, -1):
            self.refused(errors.NoMonth, office.closed, month)
        office.close()
        office.close()
        self.assertEqual((len(office.entries(0)), len(office.entries(1)), office.entries(2)), (1, 1, []))
        for month in (3, 4, 14, 15, -1, -2):
            self.refused(errors.NoMonth, office.entries, month)
        for month in (0, 3, 4, 14, 15, -1, -2):
            self.refused(errors.NoMonth, office.closed, month)
        closed_to(15, office)
        self.assertEqual((office.entries(14), office.closed(14)), ([], ([0, 0, 0], [0, 0, 0], [])))
        for month in (15, 16, 10 ** 59):
            self.refused(errors.NoMonth, office.entries, month)
            self.refused(errors.NoMonth, office.closed, month)

    def test_months_of_any_thing(self):
        office = closed_to(3, office_of(bill(day=1)))
        for thing in ODD + ("1", [1], (1,), True, False):
            self.refused(errors.NoMonth, office.entries, thing)
            self.refused(errors.NoMonth, office.closed, thing)

    def test_accounts(self):
        office = office_of(bill(day=1))
        self.assertEqual([office.account(line) for line in NET[0]], [0, 0, 0])
        office.close()
        self.assertEqual([office.account(line) for line in NET[0]], [-90, 20, 70])
        office.take(bill(day=1, paid=200))
        self.assertEqual([office.account(line) for line in NET[0]], [-90, 20, 70])
        office.close()
        self.assertEqual([office.account(line) for line in NET[0]], [0, 0, 0])

    def test_what_is_no_line(self):
        office = Office(*HOUSE)
        for thing in ODD + ("west", "york", "selby", "North", 0, 1, ["north"], ("north",), NET[0]):
            self.refused(errors.NoLine, office.account, thing)

    def test_a_penny(self):
        # 30 to south by a toll, then 10, 20, 70 of 100.
        office = office_of(bill(day=1, paid=130), toll(1, "south", 1, 1, 30))
        wanted = {0: ("south", "toll"), 29: ("south", "toll"), 30: ("north", "chains"), 39: ("north", "chains"),
                  40: ("south", "chains"), 59: ("south", "chains"), 60: ("east", "chains"), 129: ("east", "chains")}
        for penny, told in wanted.items():
            self.assertEqual(office.penny(7, penny), told + (0, 0))
        for penny in (-1, 130, 131, 10 ** 59, -(10 ** 59)):
            self.refused(errors.NoBill, office.penny, 7, penny)
        office.close()
        for penny, told in wanted.items():
            self.assertEqual(office.penny(7, penny), told + (1, 1))

    def test_a_penny_of_paid_and_collected(self):
        office = office_of(bill(day=1, paid=0, collected=1))
        self.assertEqual(office.penny(7, 0), ("east", "chains", 0, 0))
        self.refused(errors.NoBill, office.penny, 7, 1)
        office = office_of(bill(day=1, paid=0))
        self.refused(errors.NoBill, office.penny, 7, 0)

    def test_a_penny_by_the_rules(self):
        office = office_of(bill(day=1, cartage=(5, 6)), house=(NET, WAYS, WAGONS, (10, 2, 3, (0, 0, 0))))
        told = [office.penny(7, penny)[:2] for penny in (0, 4, 5, 10, 11, 20, 21, 30, 31)]
        self.assertEqual(told, [("north", "cartage"), ("north", "cartage"), ("east", "cartage"), ("east", "cartage"),
                                ("north", "end"), ("north", "end"), ("east", "end"), ("east", "end"), ("north", "chains")])

    def test_where_a_penny_is_booked(self):
        office = closed_to(2, office_of(bill(6, day=1), bill(day=1)))
        self.assertEqual(office.penny(7, 0)[2:], (1, 2))
        self.assertEqual(office.penny(6, 0)[2:], (1, 1))
        # By all papers, though it is booked otherwise so far.
        office.take(bill(day=1, paid=0, collected=5, edition=2))
        self.assertEqual(office.penny(7, 4), ("east", "chains", 1, 2))
        self.refused(errors.NoBill, office.penny, 7, 5)
        office.close()
        self.assertEqual(office.penny(7, 4), ("east", "chains", 2, 4))
        # They clash: none stands; behind its turning it is booked anew.
        office.take(bill(day=1, paid=1, edition=2))
        self.refused(errors.NoBill, office.penny, 7, 0)
        office.close()
        self.assertEqual(office.entries(3), [(5, 3, ("waybill", 7), 4, tuple(-pence for pence in office.entries(2)[1][4]))])
        self.refused(errors.NoBill, office.penny, 7, 0)
        office.take(bill(day=1, edition=3))
        self.assertEqual(office.penny(7, 0)[2:], (0, 0))
        office.close()
        self.assertEqual(office.penny(7, 0)[2:], (4, 6))

    def test_a_penny_of_a_waybill_that_moves_nothing(self):
        office = office_of(bill(day=1, way=2))
        office.close()
        self.assertEqual(office.penny(7, 99), ("north", "chains", 0, 0))

    def test_a_penny_of_any_thing(self):
        office = office_of(bill(1, day=1), bill(7, day=1))
        office.close()
        self.assertEqual(office.penny(1, 0), ("north", "chains", 1, 1))
        for thing in ODD + ("7", "1", [1], (1,), True, False):
            self.refused(errors.NoBill, office.penny, thing, 0)
            self.refused(errors.NoBill, office.penny, 7, thing)
            self.refused(errors.NoBill, office.penny, thing, thing)
        for number in (0, 2, 8, 9999, 10000, -1, 10 ** 59):
            self.refused(errors.NoBill, office.penny, number, 0)

    def test_all_pennies(self):
        office = office_of(bill(day=1, paid=60, collected=40, cartage=(3, 4)), toll(1, "south", 1, 40, 5))
        got = dict.fromkeys(NET[0], 0)
        for penny in range(100):
            got[office.penny(7, penny)[0]] += 1
        (key, amounts), = reckoned(*HOUSE, office.papers())
        self.assertEqual((got["north"] - 60, got["south"], got["east"] - 40), amounts)

    def test_claim_states(self):
        for papers, state in (
            ([], "open"), ([answer(1, "south")], "answers"), ([ruling(1, "seals")], "seals"),
            ([ruling(1, "none")], "nobody"), ([ruling(1, "line", "south")], "line"),
            ([("withdrawal", 1, 1, 3)], "withdrawn"), ([ruling(1, "seals"), answer(1, "south")], "seals"),
            ([ruling(1, "none"), ("withdrawal", 1, 1, 3), answer(1, "south")], "withdrawn"),
            ([ruling(1, "none"), ruling(2, "line", "east")], "line"),
            ([ruling(2, "none"), ruling(1, "line", "east")], "nobody"),
            ([ruling(10, "seals"), ruling(9, "none")], "seals"),
            ([answer(1, "south"), answer(1, "east")], "open"), ([answer(1, "south", of=4)], "open"),
            ([ruling(1, "none"), ruling(1, "seals"), answer(1, "south")], "answers"),
        ):
            office = office_of(bill(day=1), claim(), *papers)
            self.assertEqual(office.claim_state(3), state)
            office.close()
            self.assertEqual(office.claim_state(3), state)
            self.assertEqual(office_of(*papers[::-1], claim(), bill(day=1)).claim_state(3), state)

    def test_a_claim_that_does_not_stand(self):
        self.assertEqual(Office(*HOUSE).claim_state(3), "none")
        for papers in ([claim()], [bill(day=1)], [claim(), bill(8, day=1)], [claim(4), bill(day=1)],
                       [claim(), claim(pence=1), bill(day=1)], [claim(), bill(day=1), bill(day=2)]):
            for more in ([], [("withdrawal", 1, 1, 3)], [ruling(1, "seals")], [answer(1, "south")]):
                self.assertEqual(office_of(*papers, *more).claim_state(3), "none")

    def test_a_claims_state_of_any_thing(self):
        office = office_of(bill(1, day=1), claim(1, of=1))
        self.assertEqual(office.claim_state(1), "open")
        for thing in ODD + (0, 2, 10000, "1", [1], (1,), True, False):
            self.assertEqual(office.claim_state(thing), "none")

    def test_strays_and_those_put_aside(self):
        self.assertEqual(Office(*HOUSE).perhaps(), [])
        # Wagon 20 lacks a return at selby ahead of crewe; 21 and 2020 are strays.
        office = office_of(gone(9, "crewe", "east", 6, wagon=20), gone(5, "selby", "south", 5, wagon=21),
                           gone(4, "selby", "south", 5, wagon=2020), gone(6, "selby", "south", 5, wagon=2121))
        self.assertEqual(office.perhaps(), [(4, [20]), (5, [20]), (6, [])])

    def test_a_return_put_aside(self):
        # Ahead of the first one two would lack.
        rows = [gone(1, "crewe", "south", 3, wagon=20), gone(2, "selby", "south", 5, wagon=20)]
        office = office_of(*rows)
        self.assertEqual(office.steps(20), [("aside", 1), ("held", 2, "north", "south")])
        self.assertEqual(office.perhaps(), [(1, [])])
        # Wagon 30 of south lacks just this one: it went over to east on day 1.
        more = [gone(11, "crewe", "east", 1, wagon=30), gone(12, "selby", "north", 4, wagon=30)]
        self.assertEqual(office_of(*rows, *more).perhaps(), [(1, [30])])

    def test_perhaps_of_several_wagons(self):
        wagons = [(20, "north"), (22, "north"), (120, "north")]
        rows = [gone(number, "crewe", "east", 6, wagon=wagon) for number, wagon in ((1, 20), (2, 22), (3, 120))]
        office = office_of(gone(5, "selby", "south", 5, wagon=21), gone(4, "selby", "south", 5, wagon=122), *rows,
                           house=(NET, WAYS, wagons, RULES))
        self.assertEqual(office.perhaps(), [(4, [22, 120]), (5, [20, 22])])

    def test_perhaps_without_wagons(self):
        office = office_of(gone(5, "selby", "south", 5, wagon=21), house=(NET, WAYS, [], RULES))
        self.assertEqual(office.perhaps(), [(5, [])])

    def test_standing_returns_alone(self):
        office = office_of(gone(5, "selby", "south", 5, wagon=21), gone(5, "selby", "south", 6, wagon=21))
        self.assertEqual(office.perhaps(), [])
        office.take(("return", 5, 2) + gone(5, "selby", "south", 6, wagon=20)[3:])
        self.assertEqual((office.perhaps(), office.steps(20)), ([], [("held", 5, "north", "south")]))

    def test_astray_ones(self):
        self.assertEqual(Office(*HOUSE).astray_ones(), [])
        rows = [gone(9, "selby", "south", 1, wagon=20), gone(8, "crewe", "east", 2, wagon=20, load="empty"),
                gone(7, "crewe", "south", 3, wagon=20), gone(3, "crewe", "east", 4, wagon=20, load="empty"),
                gone(1, "selby", "north", 1, wagon=30), gone(2, "selby", "south", 2, wagon=30, load="empty"),
                gone(5, "crewe", "south", 1, wagon=9999), gone(4, "selby", "north", 2, wagon=9999, load="empty")]
        self.assertEqual(office_of(*rows).astray_ones(), [(20, 8), (20, 3), (9999, 4)])
        self.assertEqual(office_of(*rows[::-1]).astray_ones(), [(20, 8), (20, 3), (9999, 4)])

    def test_steps_and_days(self):
        rows = [gone(1, "selby", "south", 3, wagon=20), gone(2, "crewe", "south", 5, wagon=20),
                gone(3, "selby", "north", 7, wagon=20), gone(4, "crewe", "east", 7, wagon=30)]
        office = office_of(*rows)
        self.assertEqual(office.steps(20), history(NET, "north", rows[:3])[0])
        self.assertEqual(office.days(20), wagon_days(office.steps(20), rows[:3]))
        self.assertEqual((office.steps(30), office.days(30)),
                         ([("held", 4, "south", "east")], [(7, ("line", "east"))]))
        self.assertEqual((office.steps(9999), office.days(9999)), ([], []))

    def test_what_is_no_wagon(self):
        office = office_of(gone(1, "selby", "south", 3, wagon=21), house=(NET, WAYS, [(1, "north"), (20, "north")], RULES))
        self.assertEqual((office.steps(1), office.days(1)), ([], []))
        for thing in ODD + (0, 2, 21, 10000, "20", [20], (20,), (20, "north"), True, False):
            self.refused(errors.NoWagon, office.steps, thing)
            self.refused(errors.NoWagon, office.days, thing)

    def test_drawn_offices(self):
        chance = random.Random(29)
        found = [0, 0]
        for _ in range(60):
            house = draw_house(chance)
            net, ways, wagons, rules = house
            office = closed_to(3, Office(*house))
            for paper in draw_papers(chance, house, chance.randint(0, 80), 60):
                office.take(paper)
            returns = standing(office.papers(), "return")
            own = {number: [row for row in returns if row[6] == number] for number, line in wagons}
            asides, wrong = [], []
            for number, line in wagons:
                steps = history(net, line, own[number])[0]
                self.assertEqual(office.steps(number), steps)
                self.assertEqual(office.days(number), wagon_days(steps, own[number]))
                asides += [step[1] for step in steps if step[0] == "aside"]
                wrong += [(number, one) for one in astray(line, steps, own[number])]
            self.assertEqual(office.astray_ones(), wrong)
            told = [(row[1], perhaps_of(net, wagons, returns, row)) for row in returns
                    if row[6] not in own or row[1] in asides]
            self.assertEqual(office.perhaps(), told)
            found[0] += len(wrong)
            found[1] += sum(bool(perhaps) for number, perhaps in told)
        self.assertGreater(found[0], 20)
        self.assertGreater(found[1], 4)


class TheWhole(Looked):
    """Point 3: in whatever order papers come, whichever come late or twice, and wherever months are closed."""

    LAST = 3

    def month(self, paper):
        return (paper[{"waybill": 3, "return": 4}[paper[0]]] + 29) // 30 if paper[0] in ("waybill", "return") else 1

    def run_office(self, house, comings):
        """An office that has papers come as (month, paper), looked at behind each close."""
        office = Office(*house)
        seen = []
        for month in range(1, self.LAST + 2):
            for paper in [paper for when, paper in comings if when == month]:
                office.take(paper)
                self.assertEqual(sum(office.account(line) for line in house[0][0]), 0)
            office.close()
            self.is_book(office.entries(0))
            self.assertEqual(standing_in(office.entries(0)), dict(reckoned(*house, office.papers())))
            self.assertIsNone(look_book(*house, office.papers(), office.entries(0)))
            seen.append(office.entries(month))
            self.assertEqual([office.entries(one) for one in range(1, month + 1)], seen)
        return office

    def test_the_same_stands_booked(self):
        chance = random.Random(3)
        turned = 0
        for _ in range(40):
            house = draw_house(chance)
            papers = draw_papers(chance, house, chance.randint(1, 60), 30 * self.LAST)
            in_time = [(self.month(paper), paper) for paper in sorted(papers, key=self.month)]
            drawn = [(chance.randint(self.month(paper), self.LAST + 1), paper) for paper in papers + papers[::3]]
            chance.shuffle(drawn)
            late = [(self.LAST + 1, paper) for paper in papers]
            wanted = dict(reckoned(*house, papers))
            offices = [self.run_office(house, comings) for comings in (in_time, drawn, late, late[::-1])]
            for office in offices:
                self.assertEqual(standing_in(office.entries(0)), wanted)
                for at, line in enumerate(house[0][0]):
                    self.assertEqual(office.account(line), sum(amounts[at] for amounts in wanted.values()))
                turned += sum(entry[3] > 0 for entry in office.entries(0))
            self.assertEqual(offices[2].entries(0), offices[3].entries(0))
        self.assertGreater(turned, 50)

    def test_each_penny_of_a_standing_waybill(self):
        chance = random.Random(30)
        for _ in range(20):
            house = draw_house(chance)
            office = closed_to(4, Office(*house))
            for paper in draw_papers(chance, house, 40):
                office.take(paper)
            for row in standing(office.papers(), "waybill"):
                pence = row[5] + row[6]
                for penny in sorted({0, 1, pence // 2, pence - 1} & set(range(pence))):
                    line, text, month, number = office.penny(row[1], penny)
                    self.assertIn(line, house[0][0])
                    self.assertIn(text, ("cartage", "end", "toll", "chains"))
                    self.assertEqual((month, number), (0, 0))
                self.refused(errors.NoBill, office.penny, row[1], pence)

    def test_a_whole_year_within_seconds(self):
        chance = random.Random(31)
        house = draw_house(chance)
        papers = sorted(draw_papers(chance, house, 400, 420), key=self.month)
        begun = time.monotonic()
        office = Office(*house)
        for month in range(1, 15):
            for paper in papers:
                if self.month(paper) == month:
                    office.take(paper)
            office.close()
        office.perhaps()
        office.astray_ones()
        self.assertLess(time.monotonic() - begun, 10)
        self.assertEqual(standing_in(office.entries(0)), dict(reckoned(*house, papers)))


class HandedIn(Looked):
    """Point 2: what is handed in stays, what is told is the asker's own, and two offices share nothing."""

    PAPERS = [bill(day=1), bill(8, day=5, paid=40), claim(), answer(1, "south"),
              gone(2, "crewe", "east", 9, wagon=20, load="empty"), gone(3, "selby", "south", 3, wagon=21),
              gone(4, "crewe", "east", 4, wagon=30)]

    def test_lists_changed_behind_the_making(self):
        ways, wagons = list(WAYS), list(WAGONS)
        office, other = Office(NET, ways, wagons, RULES), Office(*HOUSE)
        ways.clear()
        wagons[:] = [(21, "east")]
        for paper in self.PAPERS:
            self.assertEqual(office.take(paper), other.take(paper))
        for one in (office, other):
            one.close()
        self.assertEqual(state_of(office), state_of(other))
        self.assertEqual(office.steps(20), other.steps(20))

    def test_what_is_handed_in_is_unchanged(self):
        handed = (NET, list(WAYS), list(WAGONS), RULES)
        kept = copy.deepcopy(handed)
        office = office_of(*self.PAPERS, house=handed)
        office.stop("north")
        office.close()
        state_of(office)
        self.assertEqual(handed, kept)
        thing = ["waybill", [1], (2,)]
        self.refused(errors.NoPaper, office.take, thing)
        self.assertEqual(thing, ["waybill", [1], (2,)])

    def asks(self, office):
        return [office.papers, lambda: office.entries(0), lambda: office.entries(1), lambda: list(office.closed(1)),
                lambda: office.closed(1)[0], lambda: office.closed(1)[1], lambda: office.closed(1)[2], office.perhaps,
                lambda: office.perhaps()[0][1], office.astray_ones, lambda: office.steps(20), lambda: office.days(20)]

    def test_told_lists_are_the_askers_own(self):
        office = office_of(*self.PAPERS)
        office.close()
        kept = state_of(office)
        for ask in self.asks(office):
            told, before = ask(), copy.deepcopy(ask())
            self.assertIs(type(told), list)
            self.assertTrue(told)
            told[0] = "less"
            told.append("more")
            self.assertEqual(ask(), before)
            told.clear()
            self.assertEqual(ask(), before)
        self.assertEqual(state_of(office), kept)

    def test_told_payments_are_the_askers_own(self):
        office = office_of(bill(day=1))
        told = office.close()
        kept = list(told)
        told.clear()
        self.assertEqual(office.closed(1)[2], kept)
        again = office.closed(1)[2]
        again.append("more")
        self.assertEqual(office.closed(1)[2], kept)

    def test_empty_lists_are_the_askers_own(self):
        office = Office(*HOUSE)
        office.close().append("more")
        for ask in (office.papers, lambda: office.entries(0), lambda: office.entries(1), lambda: office.closed(1)[2],
                    office.perhaps, office.astray_ones, lambda: office.steps(20), lambda: office.days(20)):
            ask().append("more")
            self.assertEqual(ask(), [])

    def test_nothing_done_later_changes_what_was_told(self):
        office = office_of(*self.PAPERS)
        office.close()
        told = [ask() for ask in self.asks(office)]
        kept = copy.deepcopy(told)
        office.take(bill(day=1, paid=300, edition=2))
        office.take(gone(9, "crewe", "south", 12, wagon=20))
        office.stop("north")
        office.close()
        self.assertEqual(told, kept)

    def test_two_offices_by_turns(self):
        chance = random.Random(2)
        house = draw_house(chance)
        papers = [draw_papers(chance, house, 30, 30) for _ in range(2)]
        alone = []
        for some in papers:
            office = Office(*house)
            for at, paper in enumerate(some):
                office.take(paper)
                if at == 15:
                    office.close()
            office.close()
            alone.append(state_of(office))
        offices = [Office(*house), Office(*house)]
        for at in range(30):
            for office, some in zip(offices, papers):
                office.take(some[at])
                if at == 15:
                    office.close()
        for office in offices:
            office.close()
        self.assertEqual([state_of(office) for office in offices], alone)
        offices[0].stop(house[0][0][0])
        self.assertIsNone(offices[1].stop(house[0][0][0]))

    def test_asking_changes_nothing(self):
        office = office_of(*self.PAPERS)
        office.close()
        kept = state_of(office)
        for _ in range(3):
            self.assertEqual(state_of(office), kept)
        for thing in ODD:
            for ask in (office.entries, office.closed, office.account, office.steps, office.days, office.stop):
                self.assertRaises(errors.HouseError, ask, thing)
        self.assertEqual(state_of(office), kept)


if __name__ == "__main__":
    unittest.main()
