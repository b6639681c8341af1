"""Point 31, with point 26 by its looker, and point 2 as far as it goes."""

import copy
import random
import unittest

from samples import ANY_THINGS, NET, RULES, WAGONS, WAYS, answer, bill, claim, draw_house, draw_papers, gone
from throughlines.books import look_book
from throughlines.errors import HouseError, NoProof
from throughlines.office import Office
from throughlines.reckoning import reckoned

HOUSE = (NET, WAYS, WAGONS, RULES)


def is_int(thing):
    return type(thing) is int


def own_book():
    """The papers and the book of an office, in which something of each kind was turned, alone and with another one."""
    office = Office(*HOUSE)
    for paper in (bill(7, day=1), bill(8, day=1, way=1, paid=40), claim(3, pence=50), answer(1, "south"),
                  gone(1, "selby", "south", 1, wagon=20), gone(2, "selby", "north", 9, wagon=20)):
        office.take(paper)
    office.close()
    for paper in (bill(7, day=1, paid=200, edition=2), bill(8, day=1, way=1, paid=41), claim(3, pence=60, edition=2),
                  ("return", 2, 2) + gone(2, "selby", "north", 8, wagon=20)[3:], bill(9999, day=31)):
        office.take(paper)
    office.close()
    office.take(bill(8, day=1, way=1, paid=80, edition=2))
    office.close()
    return office.papers(), office.entries(0)


PAPERS, BOOK = own_book()


def well_formed(net, book):
    """The place of the first entry that is not as points 26 and 31 tell, -1 where all are."""
    for at, entry in enumerate(book):
        if not is_right(net, book[:at], entry):
            return at + 1
    return -1


def is_right(net, elder, entry):
    if type(entry) is not tuple or len(entry) != 5:
        return False
    number, month, key, turns, amounts = entry
    if not all(map(is_int, (number, month, turns))) or number != len(elder) + 1 or not 1 <= month <= 14:
        return False
    if elder and month < elder[-1][1]:
        return False
    if type(key) is not tuple or not key or repr(key[0]) not in ("'waybill'", "'claim'", "'hire'"):
        return False
    bounds = {"waybill": (9999,), "claim": (9999,), "hire": (9999, 14)}[key[0]]
    if len(key) != len(bounds) + 1 or not all(is_int(one) and 1 <= one <= most for one, most in zip(key[1:], bounds)):
        return False
    if type(amounts) is not tuple or len(amounts) != len(net[0]) or not all(map(is_int, amounts)):
        return False
    if sum(amounts) != 0 or not any(amounts):
        return False
    turned = [one[3] for one in elder if one[3]]
    if turns == 0:
        return not [one for one in elder if one[2] == key and one[3] == 0 and one[0] not in turned]
    if not 1 <= turns <= len(elder) or turns in turned:
        return False
    one = elder[turns - 1]
    return one[2] == key and one[3] == 0 and one[4] == tuple(-pence for pence in amounts)


def by_words(house, papers, thing):
    """The fault by point 31's words, None where it is let by."""
    if type(thing) is not list:
        return 0
    at = well_formed(house[0], thing)
    if at != -1:
        return at
    turned = [entry[3] for entry in thing if entry[3]]
    stand = {entry[2]: entry[4] for entry in thing if entry[3] == 0 and entry[0] not in turned}
    return None if stand == dict(reckoned(*house, papers)) else "due"


class Looked(unittest.TestCase):
    def refused(self, where, thing, papers=None, house=HOUSE):
        papers = PAPERS if papers is None else papers
        self.assertEqual(by_words(house, papers, thing), where, repr(thing)[:300])
        with self.assertRaises(NoProof, msg=repr(thing)[:300]) as caught:
            look_book(*house, papers, thing)
        self.assertEqual(caught.exception.where, where)
        self.assertIs(type(caught.exception.where), type(where))
        self.assertIsInstance(caught.exception, HouseError)

    def let_by(self, thing, papers=None, house=HOUSE):
        papers = PAPERS if papers is None else papers
        self.assertIsNone(by_words(house, papers, thing))
        self.assertIsNone(look_book(*house, papers, thing))

    def put(self, at, place, thing):
        """The book with one thing of one entry put otherwise; at counts from 1."""
        entry = BOOK[at - 1]
        return BOOK[:at - 1] + [entry[:place] + (thing,) + entry[place + 1:]] + BOOK[at:]

    def all_refused(self, place, *things):
        """Of each entry, with one of these things in that place."""
        for at in range(1, len(BOOK) + 1):
            for thing in things:
                if repr(thing) != repr(BOOK[at - 1][place]):
                    self.refused(at, self.put(at, place, thing))


class LookBook(Looked):
    def test_the_book_here(self):
        self.assertEqual([entry[:4] for entry in BOOK], [
            (1, 1, ("waybill", 7), 0), (2, 1, ("waybill", 8), 0), (3, 1, ("claim", 3), 0), (4, 1, ("hire", 20, 1), 0),
            (5, 2, ("waybill", 7), 1), (6, 2, ("waybill", 7), 0), (7, 2, ("waybill", 8), 2), (8, 2, ("waybill", 9999), 0),
            (9, 2, ("claim", 3), 3), (10, 2, ("claim", 3), 0), (11, 2, ("hire", 20, 1), 4), (12, 2, ("hire", 20, 1), 0),
            (13, 3, ("waybill", 8), 0),
        ])

    def test_an_offices_own_book_is_let_by(self):
        self.let_by(BOOK)
        self.let_by(BOOK, PAPERS[::-1])
        self.let_by(BOOK, PAPERS + PAPERS)
        self.let_by([], [])

    def test_ahead_of_a_close_it_is_not_what_is_due(self):
        self.refused("due", BOOK, PAPERS + [bill(6, day=1)])
        self.refused("due", [], PAPERS)
        self.refused("due", BOOK, [])

    def test_no_list(self):
        for thing in ANY_THINGS:
            if type(thing) is not list:
                self.refused(0, thing)
        self.refused(0, tuple(BOOK))
        self.refused(0, (BOOK,))
        self.refused(0, {})
        self.refused(0, tuple(BOOK), [])

    def test_lists_of_any_things(self):
        for thing in ANY_THINGS:
            self.refused(1, [thing])
            self.refused(len(BOOK) + 1, BOOK + [thing])
            self.refused(1, [thing] + BOOK)
            if type(thing) is list and thing:
                self.refused(1, thing)

    def test_entries_of_any_things(self):
        for at, entry in enumerate(BOOK, start=1):
            for thing in ANY_THINGS + (list(entry), entry[:4], entry + (0,), (entry,), [entry], entry[::-1]):
                self.refused(at, BOOK[:at - 1] + [thing] + BOOK[at:])

    def test_each_place_with_any_thing(self):
        for at, entry in enumerate(BOOK, start=1):
            for place in range(5):
                for thing in ANY_THINGS:
                    if not (place in (0, 1, 3) and is_int(thing) and thing >= 0):
                        self.refused(at, self.put(at, place, thing))

    def test_numbers(self):
        self.all_refused(0, 0, -1, 14, 99, True, False, None, "1", (1,), 10 ** 59)
        self.refused(1, [(True,) + BOOK[0][1:]] + BOOK[1:])
        self.assertEqual([(True,) + BOOK[0][1:]], BOOK[:1])

    def test_numbers_left_out_or_exchanged(self):
        for at in range(1, len(BOOK)):
            self.refused(at, BOOK[:at - 1] + BOOK[at:])
        for at in range(1, len(BOOK)):
            swapped = list(BOOK)
            swapped[at - 1:at + 1] = swapped[at], swapped[at - 1]
            self.refused(at, swapped)
        self.refused(len(BOOK) + 1, BOOK + [BOOK[-1]])
        self.refused(len(BOOK) + 1, BOOK + BOOK)

    def test_months(self):
        self.all_refused(1, 0, -1, 15, True, None, "1", 10 ** 59)
        # A falling one is the later entry's fault.
        self.refused(2, self.put(1, 1, 2))
        self.refused(5, self.put(4, 1, 3))
        self.refused(13, self.put(13, 1, 1))
        for month in range(2, 15):
            self.let_by(self.put(13, 1, month))
        self.let_by([(number, 14, key, turns, amounts) for number, month, key, turns, amounts in BOOK])

    def test_keys(self):
        self.all_refused(
            2, (), ("waybill",), ("claim",), ("hire",), ("toll", 7), ("return", 1), ("Waybill", 7), ("waybill", 0),
            ("waybill", 10000), ("waybill", -1), ("waybill", True), ("waybill", "7"), ("waybill", None), ("waybill", 7, 1),
            ("waybill", (7,)), ["waybill", 7], ("claim", 0), ("claim", 10000), ("claim", True), ("claim", 3, 1), ["claim", 3],
            ("hire", 20), ("hire", 20, 0), ("hire", 20, 15), ("hire", 0, 1), ("hire", 10000, 1), ("hire", 20, True),
            ("hire", True, 1), ("hire", 20, 1, 1), ["hire", 20, 1], ("hire", (20, 1)), "waybill", ("hire", "20", 1),
            (("waybill",), 7), (["waybill"], 7), (7, "waybill"), "waybill 7", ("hire", 20, [1]), ("waybill", [7]),
        )

    def test_keys_of_other_waybills_and_any_wagon(self):
        # By their kind and numbers they are keys; but nothing of them is due.
        for key in (("waybill", 1), ("waybill", 9998), ("claim", 9999), ("hire", 21, 1), ("hire", 9999, 14), ("hire", 1, 2)):
            self.refused("due", BOOK + [(14, 3, key, 0, (1, -1, 0))])
            self.let_by(BOOK + [(14, 3, key, 0, (1, -1, 0)), (15, 3, key, 14, (-1, 1, 0))])

    def test_turns(self):
        self.all_refused(3, -1, 14, 99, True, False, None, "1", (0,), [0], 10 ** 59)

    def test_turned_is_what_is_not_there(self):
        for at in (5, 7, 9, 11):
            for turns in range(14):
                if turns != BOOK[at - 1][3]:
                    self.refused(at, self.put(at, 3, turns))

    def test_turned_by_itself_or_a_later_one(self):
        for turns in (5, 6, 13):
            self.refused(5, self.put(5, 3, turns))

    def test_turned_twice(self):
        again = BOOK + [(14, 3, ("waybill", 7), 1, BOOK[4][4])]
        self.refused(14, again)
        self.refused(14, BOOK + [(14, 3, ("waybill", 8), 2, BOOK[6][4])])

    def test_a_turning_one_is_not_turned(self):
        self.refused(14, BOOK + [(14, 3, ("waybill", 7), 5, BOOK[0][4])])

    def test_turned_with_amounts_not_contrary(self):
        for at in (5, 7, 9, 11):
            amounts = BOOK[at - 1][4]
            for other in (tuple(-pence for pence in amounts), tuple(2 * pence for pence in amounts), amounts[::-1]):
                if other != amounts:
                    self.refused(at, self.put(at, 4, other))

    def test_turned_with_another_key(self):
        amounts = tuple(-pence for pence in BOOK[7][4])
        self.refused(14, BOOK + [(14, 3, ("waybill", 7), 8, amounts)])
        self.refused(14, BOOK + [(14, 3, ("claim", 9999), 8, amounts)])
        self.refused("due", BOOK + [(14, 3, ("waybill", 9999), 8, amounts)])

    def test_two_of_a_key_at_a_time(self):
        self.refused(14, BOOK + [(14, 3, ("waybill", 7), 0, BOOK[5][4])])
        self.refused(14, BOOK + [(14, 3, ("waybill", 7), 0, (1, -1, 0))])
        # In place of the turning: the second one of the key isn't right there.
        self.refused(5, self.put(5, 3, 0))

    def test_amounts(self):
        self.all_refused(
            4, (), (0, 0, 0), (0, 0), (1, -1), (1, -1, 0, 0), (1, 0, 0), (-1, 0, 0), (1, 1, -1), [1, -1, 0], None, "1",
            (1, -1, None), (1, -1, "0"), (True, -1, 0), (1, -1, False), (True, -1, False), ((1, -1, 0),), (1, -1, [0]), 0,
        )

    def test_amounts_as_lists(self):
        for at, entry in enumerate(BOOK, start=1):
            self.refused(at, self.put(at, 4, list(entry[4])))
            self.refused(at, self.put(at, 2, list(entry[2])))
            self.refused(at, BOOK[:at - 1] + [list(entry)] + BOOK[at:])

    def test_truths_like_numbers(self):
        papers = [bill(1, day=1, way=1, paid=1, cartage=(0, 1))]
        book = [(1, 1, ("waybill", 1), 0, (-1, 1, 0))]
        self.let_by(book, papers)
        for entry in ((True, 1, ("waybill", 1), 0, (-1, 1, 0)), (1, True, ("waybill", 1), 0, (-1, 1, 0)),
                      (1, 1, ("waybill", True), 0, (-1, 1, 0)), (1, 1, ("waybill", 1), False, (-1, 1, 0)),
                      (1, 1, ("waybill", 1), 0, (-1, True, 0)), (1, 1, ("waybill", 1), 0, (-1, 1, False))):
            self.assertEqual([entry], book)
            self.refused(1, [entry], papers)
        back = [(2, 2, ("waybill", 1), 1, (1, -1, 0))]
        self.let_by(book + back, [])
        self.refused(2, book + [back[0][:3] + (True,) + back[0][4:]], [])

    def test_amounts_of_any_size(self):
        huge = (10 ** 59, -(10 ** 59), 0)
        self.refused("due", [(1, 1, ("waybill", 7), 0, huge)])
        self.let_by([(1, 1, ("waybill", 7), 0, huge), (2, 1, ("waybill", 7), 1, (-(10 ** 59), 10 ** 59, 0))], [])

    def test_what_stands_is_not_what_is_due(self):
        # Something is left out, other amounts, something more.
        self.refused("due", BOOK[:-1])
        amounts = BOOK[12][4]
        for other in (tuple(2 * pence for pence in amounts), tuple(-pence for pence in amounts), (1, -1, 0)):
            self.refused("due", self.put(13, 4, other))
        self.refused("due", self.put(13, 2, ("waybill", 9)))
        self.refused("due", self.put(13, 2, ("claim", 8)))

    def test_how_it_came_to_stand_does_not_matter(self):
        due = reckoned(*HOUSE, PAPERS)
        for order in (due, due[::-1]):
            book = [(at, 1, key, 0, amounts) for at, (key, amounts) in enumerate(order, start=1)]
            self.let_by(book)

    def test_papers_as_they_stand(self):
        # Clashing papers, and newer editions.
        papers = [bill(7, day=1), bill(7, day=2)]
        self.let_by([], papers)
        self.refused("due", [(1, 1, ("waybill", 7), 0, (-90, 20, 70))], papers)
        self.let_by([(1, 1, ("waybill", 7), 0, (-180, 40, 140))], papers + [bill(7, day=1, paid=200, edition=2)])

    def test_by_its_own_rules_wagons_and_ways(self):
        self.refused("due", BOOK, house=(NET, WAYS, WAGONS, (1, 2, 3, (0, 0, 0))))
        self.refused("due", BOOK, house=(NET, WAYS, WAGONS, (0, 2, 4, (0, 0, 0))))
        self.refused("due", BOOK, house=(NET, WAYS, [(20, "south")], RULES))
        self.refused("due", BOOK, house=(NET, WAYS[::-1], WAGONS, RULES))

    def test_the_first_of_two_faults(self):
        book = self.put(3, 4, (1, 0, 0))
        book[7] = None
        self.refused(3, book)
        self.refused(8, BOOK[:7] + [None] + BOOK[8:12] + [None])
        self.refused(3, book, [])
        self.refused(13, BOOK[:12] + [None], [])
        # A fault at the last one is told ahead of what is due.
        self.refused(14, BOOK + [(14, 2, ("waybill", 1), 0, (1, -1, 0))])

    def test_drawn_books(self):
        chance = random.Random(31)
        found = {None: 0, "due": 0, "entry": 0}
        for _ in range(120):
            house = draw_house(chance)
            office = Office(*house)
            for month in range(4):
                for paper in draw_papers(chance, house, 15, 30 * (month + 1)):
                    office.take(paper)
                office.close()
            papers, book = office.papers(), office.entries(0)
            self.let_by(book, papers, house)
            for _ in range(6):
                other = list(book)
                for _ in range(chance.choice((1, 1, 2))):
                    spoil(chance, house, other)
                where = by_words(house, papers, other)
                found[where if where in (None, "due") else "entry"] += 1
                if where is None:
                    self.let_by(other, papers, house)
                else:
                    self.refused(where, other, papers, house)
        self.assertGreater(min(found.values()), 20)


def spoil(chance, house, book):
    """Something in it put otherwise, left out or put in."""
    if not book:
        book.append((1, 1, ("waybill", 1), 0, (1, -1) + (0,) * (len(house[0][0]) - 2)))
        return
    at = chance.randrange(len(book))
    number, month, key, turns, amounts = book[at]
    book[at:at + 1] = chance.choice((
        [(number, min(month + 1, 14), key, turns, amounts)], [(number, month, ("waybill", chance.randint(1, 9)), turns, amounts)],
        [(number, month, key, chance.randint(0, len(book)), amounts)],
        [(number, month, key, turns, tuple(2 * pence for pence in amounts))], [], [book[at]] * 2,
        [(number, month, key, turns, amounts[::-1])], [(number + 1, month, key, turns, amounts)],
    ))
    if chance.random() < 0.5:
        book[:] = [(one,) + entry[1:] for one, entry in enumerate(book, start=1)]


class HandedIn(unittest.TestCase):
    """Point 2: what is handed in stays."""

    def test_it_is_unchanged_behind_the_call(self):
        handed = (NET, list(WAYS), list(WAGONS), RULES, list(PAPERS), list(BOOK))
        kept = copy.deepcopy(handed)
        look_book(*handed)
        self.assertEqual(handed, kept)

    def test_any_thing_is_unchanged_behind_the_call(self):
        things = [list(BOOK[:-1]), [list(BOOK[0])], [[1, [2], (3,)]], [BOOK[0][:4] + ([1, -1, 0],)], BOOK[::-1]]
        kept = copy.deepcopy(things)
        for thing in things:
            self.assertRaises(NoProof, look_book, *HOUSE, PAPERS, thing)
        self.assertEqual(things, kept)

    def test_it_is_told_anew_each_time(self):
        book = list(BOOK)
        look_book(*HOUSE, PAPERS, book)
        book.pop()
        self.assertRaises(NoProof, look_book, *HOUSE, PAPERS, book)
        self.assertIsNone(look_book(*HOUSE, PAPERS, BOOK))


if __name__ == "__main__":
    unittest.main()
