"""Point 25, and points 2 and 3 as far as it goes."""

import copy
import itertools
import random
import time
import unittest

from samples import NET, RULES, WAGONS, WAYS, answer, bill, claim, draw_house, draw_papers, gone, ruling, toll
from throughlines.hire import hire_days
from throughlines.histories import history
from throughlines.losses import bearers, seals
from throughlines.money import parts
from throughlines.nets import is_net
from throughlines.papers import fault, standing
from throughlines.reckoning import reckoned
from throughlines.sharing import divided
from throughlines.ways import is_way, legs


def due(*papers, rules=RULES):
    return reckoned(NET, WAYS, WAGONS, rules, list(papers))


def by_words(net, ways, wagons, rules, papers):
    """Point 25 key by key, from the functions of the other points."""
    end, free, rate, leasts = rules
    bills = {paper[1]: paper for paper in standing(papers, "waybill")}
    told = []

    def add(key, *moves):
        amounts = [0] * len(net[0])
        for line, pence in moves:
            amounts[net[0].index(line)] += pence
        if any(amounts):
            told.append((key, tuple(amounts)))

    def wagon_steps(number):
        own = [paper for paper in standing(papers, "return") if paper[6] == number]
        return history(net, dict(wagons)[number], own)[0], own

    for number, (kind, same, edition, day, way, paid, collected, cartage, wagon) in sorted(bills.items()):
        tolls = tuple(sum(one[6] for one in standing(papers, "toll") if one[3] == line and one[4] <= day <= one[5])
                      for line in net[0])
        shares = divided(net, ways[way], paid + collected, cartage, end, tolls, leasts)
        run = legs(net, ways[way])
        add(("waybill", number), *[(line, pence) for line, text, pence in shares], (run[0][0], -paid), (run[-1][0], -collected))
    for kind, number, edition, of, pence in standing(papers, "claim"):
        if of not in bills:
            continue
        way, day, wagon = ways[bills[of][4]], bills[of][3], bills[of][8]
        first = legs(net, way)[0][0]
        rulings = [paper for paper in standing(papers, "ruling") if paper[3] == number]
        said = {paper[4] for paper in standing(papers, "answer") if paper[3] == number}
        if any(paper[3] == number for paper in standing(papers, "withdrawal")):
            continue
        if rulings:
            holds = max(rulings, key=lambda paper: paper[1])[4]
            if holds == ("none",):
                continue
            borne = [(holds[-1], 1)]
            if holds == ("seals",):
                borne = bearers(net, way, seals(net, way, day, *wagon_steps(wagon)))
        elif said:
            borne = [(line, 1) for line in net[0] if line in said]
        else:
            continue
        add(("claim", number), (first, pence),
            *[(line, -part) for (line, weight), part in zip(borne, parts(pence, [weight for line, weight in borne]))])
    for wagon, owner in wagons:
        days = hire_days(owner, free, *wagon_steps(wagon))
        for month in range(1, 15):
            moves = [((line, -rate), (owner, rate)) for day, line in days if (day + 29) // 30 == month]
            add(("hire", wagon, month), *itertools.chain(*moves))
    return told


class Looked(unittest.TestCase):
    def told(self, papers, *wanted, rules=RULES):
        told = reckoned(NET, WAYS, WAGONS, rules, list(papers))
        self.assertEqual(told, list(wanted))
        self.well_formed(NET, told)
        self.assertTrue(all(fault(NET, WAYS, WAGONS, paper) == -1 for paper in papers))
        self.assertEqual(by_words(NET, WAYS, WAGONS, rules, list(papers)), list(wanted))

    def well_formed(self, net, told):
        self.assertIs(type(told), list)
        for row in told:
            self.assertIs(type(row), tuple)
            key, amounts = row
            self.assertIs(type(key), tuple)
            self.assertIs(type(amounts), tuple)
            self.assertEqual(len(amounts), len(net[0]))
            self.assertTrue(all(type(pence) is int for pence in amounts + key[1:]))
            self.assertEqual(sum(amounts), 0)
            self.assertTrue(any(amounts))
        order = [(("waybill", "claim", "hire").index(key[0]),) + key[1:] for key, amounts in told]
        self.assertEqual(order, sorted(set(order)))


class Reckoned(Looked):
    def test_the_house_here(self):
        self.assertTrue(is_net(NET) and all(is_way(NET, way) for way in WAYS))

    def test_no_papers(self):
        self.told([])

    def test_papers_of_which_nothing_is_due(self):
        self.told([toll(1, "north", 1, 9, 5), claim(), answer(1, "north"), ruling(1, "seals"), ("withdrawal", 1, 1, 3)])


class Waybills(Looked):
    def test_paid(self):
        self.told([bill()], (("waybill", 7), (-90, 20, 70)))
        self.told([bill(way=3)], (("waybill", 7), (10, 20, -30)))

    def test_collected(self):
        self.told([bill(paid=0, collected=100)], (("waybill", 7), (10, 20, -30)))

    def test_paid_and_collected_are_divided_together(self):
        self.told([bill(paid=60, collected=40)], (("waybill", 7), (-50, 20, 30)))
        # 19 together: 2, 4, 13; each by itself would leave others.
        self.told([bill(paid=10, collected=9)], (("waybill", 7), (-8, 4, 4)))

    def test_cartage_ends_and_leasts(self):
        self.told([bill(cartage=(8, 2), paid=110)], (("waybill", 7), (-92, 20, 72)))
        self.told([bill(paid=120)], (("waybill", 7), (-100, 20, 80)), rules=(10, 2, 3, (0, 0, 0)))
        self.told([bill()], (("waybill", 7), (-72, 16, 56)), rules=(0, 2, 3, (28, 0, 0)))

    def test_tolls_at_the_first_and_the_last_day(self):
        for first, last in ((31, 31), (31, 40), (1, 31), (1, 420), (30, 32)):
            self.told([bill(paid=110), toll(1, "south", first, last, 10)], (("waybill", 7), (-100, 30, 70)))

    def test_tolls_a_day_beside(self):
        for first, last in ((32, 32), (30, 30), (1, 30), (32, 420)):
            self.told([bill(), toll(1, "south", first, last, 10)], (("waybill", 7), (-90, 20, 70)))

    def test_several_tolls_of_one_line(self):
        papers = [bill(paid=110), toll(1, "south", 1, 31, 3), toll(2, "south", 31, 40, 7), toll(3, "south", 1, 30, 99)]
        self.told(papers, (("waybill", 7), (-100, 30, 70)))
        papers = [bill(paid=106), toll(1, "south", 1, 40, 3), toll(2, "east", 1, 40, 2), toll(3, "north", 1, 40, 1)]
        self.told(papers, (("waybill", 7), (-95, 23, 72)))

    def test_tolls_of_a_line_beside_the_way(self):
        self.told([bill(way=1, paid=40), toll(1, "east", 1, 420, 99)], (("waybill", 7), (-30, 30, 0)))

    def test_a_toll_of_a_newer_edition(self):
        papers = [bill(paid=110), toll(1, "south", 1, 31, 3), toll(1, "south", 31, 31, 10, edition=2)]
        self.told(papers, (("waybill", 7), (-100, 30, 70)))
        # The newer one is of other days: then none is paid.
        papers = [bill(paid=100), toll(1, "south", 1, 31, 3), toll(1, "south", 40, 40, 10, edition=2)]
        self.told(papers, (("waybill", 7), (-90, 20, 70)))

    def test_clashing_tolls(self):
        papers = [bill(), toll(1, "south", 1, 31, 3), toll(1, "south", 1, 31, 4)]
        self.told(papers, (("waybill", 7), (-90, 20, 70)))

    def test_clashing_waybills(self):
        self.told([bill(), bill(paid=99)])
        self.told([bill(), bill(paid=99), bill(paid=200, edition=2)], (("waybill", 7), (-180, 40, 140)))
        self.told([bill(edition=2), bill(paid=99, edition=2), bill(paid=200)])

    def test_the_greatest_edition(self):
        self.told([bill(), bill(paid=200, edition=9), bill(paid=300, edition=8)], (("waybill", 7), (-180, 40, 140)))

    def test_shares_that_go_back_to_noughts(self):
        # Paid and got by one and the same line.
        self.told([bill(way=2)])
        self.told([bill(paid=0)])
        # The first line's cartage is all that was paid.
        self.told([bill(cartage=(100, 0))])
        self.told([bill(paid=0, collected=100, cartage=(0, 100))])

    def test_by_number(self):
        self.told([bill(9999), bill(10, paid=200), bill(9), bill(1)],
                  (("waybill", 1), (-90, 20, 70)), (("waybill", 9), (-90, 20, 70)),
                  (("waybill", 10), (-180, 40, 140)), (("waybill", 9999), (-90, 20, 70)))

    def test_the_greatest_sums(self):
        most = 10 ** 9
        self.told([bill(paid=most, collected=most)], (("waybill", 7), (-8 * 10 ** 8, 4 * 10 ** 8, 4 * 10 ** 8)))
        tolls = [toll(number, "south", 1, 420, most) for number in range(1, 399)]
        self.told([bill(paid=most, collected=most)] + tolls, (("waybill", 7), (-most, 2 * most, -most)))


class Claims(Looked):
    BILL = bill(paid=0)

    def borne(self, papers, *amounts, pence=100, way=0):
        """Of claim 3 on waybill 7 with these papers."""
        papers = [bill(paid=0, way=way), claim(pence=pence)] + list(papers)
        self.told(papers, *[(("claim", 3), one) for one in amounts])

    def test_without_a_waybill(self):
        self.told([claim(), answer(1, "south")])
        self.told([bill(8), claim(), answer(1, "south")], (("waybill", 8), (-90, 20, 70)))

    def test_with_a_clashing_waybill(self):
        self.told([self.BILL, bill(paid=0, day=32), claim(), answer(1, "south")])

    def test_open(self):
        self.borne([])
        self.borne([answer(1, "south", of=4), ruling(1, "seals", of=4), ("withdrawal", 1, 1, 4)])

    def test_one_answer(self):
        self.borne([answer(1, "south")], (100, -100, 0))
        self.borne([answer(1, "east")], (100, 0, -100))

    def test_answers_of_several_lines(self):
        self.borne([answer(1, "east"), answer(2, "south")], (100, -50, -50))
        self.borne([answer(2, "east"), answer(1, "south")], (101, -51, -50), pence=101)
        self.borne([answer(1, "east"), answer(2, "south"), answer(3, "north")], (66, -33, -33))
        # The pennies left go to the earlier ones in the net's order: north, then south.
        self.borne([answer(1, "east"), answer(2, "south"), answer(3, "north")], (67, -34, -33), pence=101)
        self.borne([answer(1, "east"), answer(2, "south"), answer(3, "north")], (66, -33, -33), pence=100)

    def test_answers_of_one_line_twice(self):
        self.borne([answer(1, "south"), answer(2, "east"), answer(3, "south")], (100, -50, -50))
        self.borne([answer(1, "south"), answer(2, "south")], (100, -100, 0))

    def test_an_answer_of_the_first_line_alone(self):
        self.borne([answer(1, "north")])

    def test_clashing_answers(self):
        self.borne([answer(1, "south"), answer(1, "east")])
        self.borne([answer(1, "south"), answer(1, "east"), answer(2, "east")], (100, 0, -100))
        self.borne([answer(1, "south"), answer(1, "east", edition=2)], (100, 0, -100))

    def test_withdrawn(self):
        for papers in ([], [answer(1, "south")], [ruling(1, "line", "south")], [ruling(1, "seals"), answer(1, "south")]):
            self.borne(papers + [("withdrawal", 1, 1, 3)])
        self.borne([("withdrawal", 1, 1, 4), answer(1, "south")], (100, -100, 0))

    def test_clashing_withdrawals(self):
        self.borne([("withdrawal", 1, 1, 3), ("withdrawal", 1, 1, 4), answer(1, "south")], (100, -100, 0))
        self.borne([("withdrawal", 1, 1, 3), ("withdrawal", 1, 2, 4), answer(1, "south")], (100, -100, 0))

    def test_each_ruling(self):
        self.borne([ruling(1, "line", "south")], (100, -100, 0))
        self.borne([ruling(1, "line", "north")])
        self.borne([ruling(1, "none")])
        # No seal was seen: all three by their chains 10, 20, 70.
        self.borne([ruling(1, "seals")], (90, -20, -70))

    def test_a_ruling_ahead_of_answers(self):
        self.borne([answer(1, "east"), ruling(1, "line", "south")], (100, -100, 0))
        self.borne([answer(1, "east"), ruling(1, "none")])
        self.borne([answer(1, "east"), ruling(1, "seals")], (90, -20, -70))
        self.borne([answer(1, "east"), ruling(1, "none", of=4)], (100, 0, -100))

    def test_of_several_rulings_the_greatest_number_holds(self):
        kinds = {("seals",): [(90, -20, -70)], ("none",): [], ("line", "south"): [(100, -100, 0)],
                 ("line", "east"): [(100, 0, -100)]}
        for first, second in itertools.permutations(kinds, 2):
            # As numbers, not as texts; whatever their editions, and in whatever order they come.
            for papers in ([ruling(9, *first), ruling(10, *second)], [ruling(10, *second), ruling(9, *first)],
                           [ruling(9, *first, edition=99), ruling(10, *second)]):
                self.borne(papers, *kinds[second])
            self.borne([ruling(9, *first), ruling(10, *second, of=4)], *kinds[first])

    def test_clashing_rulings(self):
        self.borne([ruling(2, "none"), ruling(2, "seals"), ruling(1, "line", "south")], (100, -100, 0))

    def test_the_seals(self):
        # Whole at selby and broken at crewe: lost on south.
        there = [gone(1, "selby", "south", 31, wagon=20), gone(2, "crewe", "east", 31, 5, wagon=20, seal="broken")]
        rules = (0, 2, 0, (0, 0, 0))
        told = [bill(paid=0), claim(), ruling(1, "seals")]
        self.told(told + there, (("claim", 3), (100, -100, 0)), rules=rules)
        # Of another wagon, or ahead of the waybill's day, they count for nothing.
        other = [row[:6] + (30,) + row[7:] for row in there]
        self.told(told + other, (("claim", 3), (90, -20, -70)), rules=rules)
        self.told([bill(paid=0, day=32), claim(), ruling(1, "seals")] + there, (("claim", 3), (90, -20, -70)), rules=rules)
        # Broken at selby: the first line bears it itself.
        self.told(told + [there[0][:9] + ("broken",)], rules=rules)
        # Whole at both.
        self.told(told + [there[0], there[1][:9] + ("whole",)], (("claim", 3), (100, 0, -100)), rules=rules)

    def test_seals_parts_by_the_chains(self):
        # Whole at selby alone: south 20 and east 70, of 100: 22 and 78.
        there = gone(1, "selby", "south", 31, wagon=20)
        self.told([bill(paid=0), claim(), ruling(1, "seals"), there], (("claim", 3), (100, -22, -78)),
                  rules=(0, 2, 0, (0, 0, 0)))

    def test_the_first_line_gets_it(self):
        self.borne([answer(1, "south")], (0, -100, 100), way=3)
        self.borne([answer(1, "south")], (100, -100, 0), way=2)

    def test_a_claim_of_nothing(self):
        self.borne([answer(1, "south")], pence=0)

    def test_the_greatest_claim(self):
        most = 10 ** 9
        self.borne([answer(1, "south")], (most, -most, 0), pence=most)

    def test_a_claim_need_not_be_of_a_waybill_that_moves_anything(self):
        self.told([bill(paid=0, way=2), claim(), answer(1, "east")], (("claim", 3), (100, 0, -100)))

    def test_several_claims_of_one_waybill_by_number(self):
        papers = [bill(paid=0), claim(10, pence=5), claim(9, pence=6), answer(1, "south", of=10), answer(2, "east", of=9)]
        self.told(papers, (("claim", 9), (6, 0, -6)), (("claim", 10), (5, -5, 0)))

    def test_claims_of_newer_editions_and_clashing(self):
        self.told([bill(paid=0), claim(), claim(pence=7, edition=2), answer(1, "south")], (("claim", 3), (7, -7, 0)))
        self.told([bill(paid=0), claim(), claim(pence=7), answer(1, "south")])
        self.told([bill(paid=0), claim(), claim(of=8, edition=2), answer(1, "south")])


class Hire(Looked):
    def test_one_month(self):
        # On south from day 3 to 7, two days free, and back on day 8.
        there = [gone(1, "selby", "south", 3, wagon=20), gone(2, "selby", "north", 8, wagon=20)]
        self.told(there, (("hire", 20, 1), (9, -9, 0)))
        self.told(there, (("hire", 20, 1), (5 * 10 ** 9, -5 * 10 ** 9, 0)), rules=(0, 0, 10 ** 9, (0, 0, 0)))
        self.told(there, rules=(0, 5, 3, (0, 0, 0)))
        self.told(there, rules=(0, 2, 0, (0, 0, 0)))

    def test_several_months(self):
        # Days 28 to 65 on south, two of them free: day 30, all of month 2, and days 61 to 65.
        there = [gone(1, "selby", "south", 28, wagon=20), gone(2, "selby", "north", 66, wagon=20)]
        self.told(there, (("hire", 20, 1), (3, -3, 0)), (("hire", 20, 2), (90, -90, 0)), (("hire", 20, 3), (15, -15, 0)))

    def test_the_fourteenth_month(self):
        there = [gone(1, "selby", "south", 417, wagon=20), gone(2, "selby", "north", 420, wagon=20)]
        self.told(there, (("hire", 20, 14), (3, -3, 0)))

    def test_several_lines_in_a_month(self):
        there = [gone(1, "selby", "south", 1, wagon=20), gone(2, "crewe", "east", 5, wagon=20),
                 gone(3, "crewe", "south", 8, wagon=20), gone(4, "selby", "north", 9, wagon=20)]
        self.told(there, (("hire", 20, 1), (9, -6, -3)))

    def test_a_gap(self):
        # From day 5 on it was in a gap that begins on north, its owner's: south owes it.
        there = [gone(1, "selby", "south", 3, wagon=20), gone(2, "selby", "north", 5, wagon=20),
                 gone(3, "crewe", "east", 8, wagon=20), gone(4, "crewe", "south", 9, wagon=20)]
        self.told(there, (("hire", 20, 1), (9, -9, 0)))

    def test_several_wagons_by_number(self):
        rows = [gone(1, "crewe", "south", 1, wagon=9999), gone(2, "crewe", "east", 32, wagon=9999),
                gone(3, "crewe", "east", 1, wagon=30), gone(4, "crewe", "south", 4, wagon=30),
                gone(5, "selby", "south", 31, wagon=20), gone(6, "selby", "north", 34, wagon=20)]
        self.told(rows, (("hire", 20, 2), (3, -3, 0)), (("hire", 30, 1), (0, 3, -3)),
                  (("hire", 9999, 1), (0, -84, 84)), (("hire", 9999, 2), (0, -3, 3)))

    def test_a_stray_owes_nothing(self):
        self.told([gone(1, "selby", "south", 3, wagon=21), gone(2, "selby", "north", 30, wagon=21)])

    def test_standing_returns_alone(self):
        first, second = gone(1, "selby", "south", 3, wagon=20), gone(2, "selby", "north", 8, wagon=20)
        # The second clashes: one day on south is left, which is free.
        self.told([first, second, second[:4] + (9,) + second[5:]])
        newer = second[:2] + (2,) + second[3:4] + (7,) + second[5:]
        self.told([first, second, newer], (("hire", 20, 1), (6, -6, 0)))
        # A newer edition tells that it was another wagon.
        other = second[:2] + (2,) + second[3:6] + (21,) + second[7:]
        self.told([first, second, other])


class AllTogether(Looked):
    PAPERS = [
        bill(7, paid=60, collected=40), bill(8, way=1, paid=40, day=5), toll(1, "south", 1, 31, 3),
        claim(3), claim(4, of=8), claim(5, of=8, pence=9), answer(1, "south", of=4), ruling(1, "seals"),
        ("withdrawal", 1, 1, 5), gone(1, "selby", "south", 31, wagon=20),
        gone(2, "crewe", "east", 36, wagon=20, seal="broken"), gone(3, "crewe", "south", 70, wagon=20, load="empty"),
    ]
    # 97 by the chains 10, 20, 70: 10, 19, 68; 37 by 10, 30: 9, 28.
    WANTED = [
        (("waybill", 7), (-50, 22, 28)), (("waybill", 8), (-31, 31, 0)), (("claim", 3), (100, -100, 0)),
        (("claim", 4), (100, -100, 0)), (("hire", 20, 2), (78, -9, -69)), (("hire", 20, 3), (27, 0, -27)),
    ]

    def test_in_the_order_told(self):
        told = due(*self.PAPERS)
        self.assertEqual([key for key, amounts in told], [key for key, amounts in self.WANTED])
        self.told(self.PAPERS, *self.WANTED)

    def test_every_order_and_papers_that_come_twice(self):
        chance = random.Random(25)
        wanted = due(*self.PAPERS)
        for _ in range(60):
            papers = self.PAPERS + chance.sample(self.PAPERS, 3)
            chance.shuffle(papers)
            self.assertEqual(due(*papers), wanted)

    def test_every_order_of_a_few(self):
        few = [bill(), bill(paid=300, edition=2), toll(1, "south", 1, 40, 9), claim(), answer(1, "south")]
        for order in itertools.permutations(few):
            self.assertEqual(due(*order), due(*few))

    def test_drawn_papers(self):
        chance = random.Random(250)
        kinds = dict.fromkeys(("waybill", "claim", "hire"), 0)
        for _ in range(150):
            house = draw_house(chance)
            papers = draw_papers(chance, house, chance.randint(0, 140))
            self.assertTrue(all(fault(*house[:3], paper) == -1 for paper in papers))
            told = reckoned(*house, papers)
            self.assertEqual(told, by_words(*house, papers))
            self.well_formed(house[0], told)
            for key, amounts in told:
                kinds[key[0]] += 1
            chance.shuffle(papers)
            self.assertEqual(reckoned(*house, papers), told)
        self.assertGreater(min(kinds.values()), 60)

    def test_each_penny_of_a_waybill_goes_to_one_line(self):
        for papers in ([bill(paid=123, collected=77)], [bill(way=1, paid=55), toll(1, "south", 1, 420, 9)]):
            (key, amounts), = due(*papers)
            paid, collected, ends = papers[0][5], papers[0][6], (0, 2 if papers[0][4] == 0 else 1)
            got = list(amounts)
            got[ends[0]] += paid
            got[ends[1]] += collected
            self.assertTrue(all(pence >= 0 for pence in got))
            self.assertEqual(sum(got), paid + collected)

    def test_four_hundred_papers_within_seconds(self):
        chance = random.Random(251)
        returns = [gone(number, *chance.choice((("selby", "south"), ("selby", "north"), ("crewe", "east"), ("crewe", "south"))),
                        chance.randint(1, 420), wagon=WAGONS[number // 90][0]) for number in range(1, 200)]
        claims = [claim(number, of=number // 9 + 1) for number in range(1, 90)]
        rulings = [ruling(number, "seals", of=number) for number in range(1, 90)]
        bills = [bill(number, paid=number) for number in range(1, 20)]
        begun = time.monotonic()
        told = due(*(returns + claims + rulings + bills))
        self.assertLess(time.monotonic() - begun, 3)
        self.well_formed(NET, told)


class HandedIn(unittest.TestCase):
    """Point 2: what is handed in stays, what is told is new and the asker's own."""

    def test_it_is_unchanged_behind_the_call(self):
        handed = (NET, list(WAYS), list(WAGONS), RULES, AllTogether.PAPERS[::-1])
        kept = copy.deepcopy(handed)
        reckoned(*handed)
        self.assertEqual(handed, kept)

    def test_what_is_told_is_the_askers_own(self):
        told, other = due(*AllTogether.PAPERS), due(*AllTogether.PAPERS)
        kept = list(told)
        told[0] = "less"
        told.append("more")
        self.assertEqual(other, kept)
        self.assertEqual(due(*AllTogether.PAPERS), kept)
        nothing = due()
        nothing.append("more")
        self.assertEqual(due(), [])

    def test_what_is_changed_later_changes_nothing_told(self):
        ways, wagons, papers = list(WAYS), list(WAGONS), list(AllTogether.PAPERS)
        told = reckoned(NET, ways, wagons, RULES, papers)
        kept = list(told)
        ways.clear()
        wagons.clear()
        papers.clear()
        self.assertEqual(told, kept)
        self.assertEqual(due(), [])


if __name__ == "__main__":
    unittest.main()
