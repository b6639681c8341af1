"""Points 12 and 13, and points 2 and 3 as far as these functions go."""

import copy
import itertools
import random
import unittest

from samples import ANY_THINGS, paths, put
from throughlines.nets import is_net
from throughlines.papers import clashing, fault, standing
from throughlines.ways import is_way

NET = (
    ("north", "south", "east"),
    (("york", "north"), ("hull", "south"), ("bath", "east")),
    (("selby", ("north", "south")), ("crewe", ("south", "east"))),
    (("york", "selby", "north", 10), ("selby", "hull", "south", 30), ("selby", "crewe", "south", 20),
     ("crewe", "bath", "east", 70)),
)
WAYS = [("york", "selby", "hull"), ("york", "selby", "crewe", "bath")]
WAGONS = [(1, "north"), (20, "south"), (9999, "east")]

KINDS = ("waybill", "return", "toll", "claim", "answer", "ruling", "withdrawal")
WAYBILL = ("waybill", 7, 2, 31, 1, 500, 40, (10, 20), 20)
RETURN = ("return", 8, 1, "selby", 33, 14, 4711, "south", "laden", "whole")
TOLL = ("toll", 9, 1, "south", 5, 60, 25)
CLAIM = ("claim", 3, 1, 7, 300)
ANSWER = ("answer", 4, 1, 3, "east")
RULING = ("ruling", 5, 1, 3, ("line", "north"))
WITHDRAWAL = ("withdrawal", 6, 1, 3)
PAPERS = (WAYBILL, RETURN, TOLL, CLAIM, ANSWER, RULING, WITHDRAWAL)

# What no thing of a paper may be, wherever it stands.
NEVER = (None, True, False, -1, 10 ** 59, -(10 ** 59), "", "none", "York", "1", "x" * 4000, [], (), [1], (1,), ["north"],
         ("north",), [("north",)], ((),), ["seals"], [10, 20], ((10, 20),), ("seals", "none"), ("line",), 10 ** 9 + 1)

# Of each kind, for each place, what may stand there beside what the papers above have, and what may not.
NUMBERS = ((1, 2, 9999), (0, 10000))
EDITIONS = ((1, 99), (0, 100))
DAYS = ((1, 2, 419, 420), (0, 421))
SUMS = ((0, 1, 10 ** 9), (10 ** 9 + 1,))
LINES = (("north", "south", "east"), ("west", "york", "selby", 1))
PLACES = {
    "waybill": (NUMBERS, EDITIONS, DAYS, ((0, 1), (2, 24, "york", WAYS[0])), SUMS, SUMS,
                (((0, 0), (10 ** 9, 10 ** 9), (0, 10 ** 9)),
                 ((10,), (10, 20, 30), (10 ** 9 + 1, 0), (0, 10 ** 9 + 1), (-1, 0), (0, -1), (True, 0), (0, False),
                  (None, 0), (0, "1"), ([1], 2), (1, (2,)), [0, 0], 10)),
                ((1, 20, 9999), (0, 2, 19, 4711, 10000, (20, "south"), "20"))),
    "return": (NUMBERS, EDITIONS, (("selby", "crewe"), ("york", "north", "derby", 1, NET[2][0])), DAYS,
               ((0, 1, 22, 23), (24,)), NUMBERS, (("north", "south"), ("east", "west", "selby", "york", 1)),
               (("laden", "empty"), ("whole", "broken", "Laden", "loaded", 1)),
               (("whole", "broken"), ("laden", "empty", "Whole", "open", 1))),
    "toll": (NUMBERS, EDITIONS, LINES, ((1, 5, 59, 60), (0, 421)), ((5, 6, 419, 420), (0, 1, 4, 421)), SUMS),
    "claim": (NUMBERS, EDITIONS, NUMBERS, SUMS),
    "answer": (NUMBERS, EDITIONS, NUMBERS, LINES),
    "ruling": (NUMBERS, EDITIONS, NUMBERS,
               ((("seals",), ("none",), ("line", "north"), ("line", "south"), ("line", "east")),
                (("line", "west"), ("line", "york"), ("line", 1), ("line", None), ("line", ["north"]),
                 ("line", ("north",)), ("line", "north", "south"), ("seals", "north"), ("none", "north"),
                 ("north", "line"), (["line"], "north"), ["line", "north"], ["none"], "seals", "none", "line north",
                 (("seals",),), ("Seals",), ("nobody",)))),
    "withdrawal": (NUMBERS, EDITIONS, NUMBERS),
}


def fault_of(thing):
    return fault(NET, WAYS, WAGONS, thing)


class Fault(unittest.TestCase):
    def told(self, at, *things):
        for thing in things:
            with self.subTest(repr(thing)[:200]):
                told = fault_of(thing)
                self.assertEqual(told, at)
                self.assertIs(type(told), int)

    def wrong_things(self, kind, at):
        """What is wrong at that place of a paper of this kind."""
        return PLACES[kind][at - 1][1] + NEVER

    def test_the_office_here(self):
        self.assertTrue(is_net(NET) and all(is_way(NET, way) for way in WAYS))

    def test_papers(self):
        self.told(-1, *PAPERS)

    def test_what_may_stand_at_each_place(self):
        for paper in PAPERS:
            self.assertEqual(len(PLACES[paper[0]]), len(paper) - 1)
            for at, (right, wrong) in enumerate(PLACES[paper[0]], start=1):
                self.told(-1, *[put(paper, (at,), thing) for thing in right])

    def test_what_may_not_stand_at_each_place(self):
        for paper in PAPERS:
            for at in range(1, len(paper)):
                self.told(at, *[put(paper, (at,), thing) for thing in self.wrong_things(paper[0], at)])

    def test_the_first_of_two_faults(self):
        for paper in PAPERS:
            for at, behind in itertools.combinations(range(1, len(paper)), 2):
                for thing in (None, [], -1, 10 ** 59, ""):
                    self.told(at, put(put(paper, (at,), thing), (behind,), None))

    def test_all_wrong_but_the_kind(self):
        for paper in PAPERS:
            self.told(1, paper[:1] + (None,) * (len(paper) - 1), paper[:1] + ([],) * (len(paper) - 1))

    def test_any_things_at_each_place(self):
        for paper in PAPERS:
            for at in range(1, len(paper)):
                right = PLACES[paper[0]][at - 1][0] + (paper[at],)
                for thing in ANY_THINGS:
                    if not isinstance(thing, bool) and (thing in right or isinstance(thing, int) and 0 <= thing <= 9999):
                        continue
                    self.told(at, put(paper, (at,), thing))

    def test_any_things_within_raise_nothing(self):
        for paper in PAPERS:
            for path in paths(paper):
                for thing in ANY_THINGS:
                    told = fault_of(put(paper, path, thing))
                    self.assertIs(type(told), int)
                    self.assertTrue(told in (-1, path[0] if path else 0), (paper, path, thing))

    def test_no_tuple(self):
        self.told(0, *[list(paper) for paper in PAPERS], *[[paper] for paper in PAPERS], list(PAPERS), *KINDS)

    def test_any_things(self):
        self.told(0, *ANY_THINGS)
        self.told(0, NET, WAYS, WAGONS, PAPERS)

    def test_no_such_kind(self):
        for paper in PAPERS:
            for kind in ("", "bill", "Toll", "toll ", "line", "seals", "returns", "w", KINDS):
                self.told(0, (kind,) + paper[1:])

    def test_a_kind_that_is_no_text(self):
        for paper in PAPERS:
            for kind in (None, True, 0, 1, -1, [], (), [paper[0]], (paper[0],), [[paper[0]]]):
                self.told(0, (kind,) + paper[1:])

    def test_too_few_and_too_many_things(self):
        for paper in PAPERS:
            for many in range(len(paper)):
                self.told(0, paper[:many])
            for more in (None, 1, "north", (), paper[-1], paper):
                self.told(0, paper + (more,), paper[:1] + (more,) + paper[1:])
            self.told(0, paper + paper, paper + (None,) * 1490)

    def test_the_number_of_things_goes_ahead_of_other_faults(self):
        for paper in PAPERS:
            self.told(0, (paper[:1] + (None,) + paper[2:])[:-1], paper[:1] + (0,) + paper[2:] + (1,))

    def test_another_kinds_things(self):
        for paper, other in itertools.permutations(PAPERS, 2):
            told = fault_of(other[:1] + paper[1:])
            if len(paper) != len(other):
                self.assertEqual(told, 0)
        self.told(4, ("claim",) + ANSWER[1:], ("answer",) + CLAIM[1:], ("ruling",) + CLAIM[1:], ("claim",) + RULING[1:])

    def test_a_last_day_ahead_of_the_first_one(self):
        self.told(-1, ("toll", 1, 1, "east", 30, 30, 5), ("toll", 1, 1, "east", 30, 31, 5),
                  ("toll", 1, 1, "east", 1, 420, 5), ("toll", 1, 1, "east", 420, 420, 5))
        self.told(5, ("toll", 1, 1, "east", 30, 29, 5), ("toll", 1, 1, "east", 30, 1, 5),
                  ("toll", 1, 1, "east", 420, 419, 5), ("toll", 1, 1, "east", 30, 29, None))
        self.told(4, ("toll", 1, 1, "east", 421, 420, 5), ("toll", 1, 1, "east", None, 1, 5))
        self.told(3, ("toll", 1, 1, "west", 30, 29, 5))

    def test_the_line_is_one_of_the_junctions(self):
        def over(junction, line):
            return put(put(RETURN, (3,), junction), (7,), line)
        self.told(-1, over("selby", "north"), over("selby", "south"), over("crewe", "south"), over("crewe", "east"))
        self.told(7, over("selby", "east"), over("crewe", "north"))
        self.told(3, over("york", "north"), over(["selby"], "north"), over("derby", "east"))

    def test_a_returns_wagon_is_any_number(self):
        self.told(-1, *[put(RETURN, (6,), wagon) for wagon in (1, 2, 20, 4711, 9998, 9999)])

    def test_the_offices_ways(self):
        for many in (0, 1, 2, 24):
            ways = [WAYS[0]] * many
            told = [fault(NET, ways, WAGONS, put(WAYBILL, (4,), way)) for way in (-1, 0, many - 1, many)]
            self.assertEqual(told, [4, -1 if many else 4, -1 if many else 4, 4])

    def test_the_offices_wagons(self):
        for wagons in ([], [(2, "north")], [(1, "north")], [(19, "south"), (21, "south")]):
            for wagon in (0, 1, 2, 19, 20, 21, True, False):
                right = not isinstance(wagon, bool) and wagon in dict(wagons)
                told = fault(NET, WAYS, wagons, put(WAYBILL, (8,), wagon))
                self.assertEqual(told, -1 if right else 8)

    def test_a_net_without_junctions(self):
        net = (("north",), (), (), ())
        self.assertEqual([fault(net, [], [], paper) for paper in PAPERS], [4, 3, 3, -1, 4, -1, -1])

    def test_a_line_with_the_name_of_a_place(self):
        net = (("selby", "south"), (), (("south", ("selby", "south")),), ())
        self.assertEqual(fault(net, [], [], put(put(RETURN, (3,), "south"), (7,), "selby")), -1)
        self.assertEqual(fault(net, [], [], put(put(RETURN, (3,), "selby"), (7,), "selby")), 3)


# Papers of one number each, in their order, as one knows them.
ELDER = put(RETURN, (5,), 1)
NEWER = put(put(RETURN, (2,), 2), (5,), 2)
UNLIKE = put(NEWER, (5,), 3)
NEWEST = put(put(RETURN, (2,), 3), (5,), 4)


class Standing(unittest.TestCase):
    def every_order(self, papers, kind, stand, clash):
        for order in itertools.permutations(papers):
            for rows in (list(order), list(order) + list(order), list(order) + [order[0]]):
                self.assertEqual(standing(rows, kind), stand)
                self.assertEqual(clashing(rows), clash)

    def test_no_papers(self):
        for kind in KINDS:
            self.assertEqual(standing([], kind), [])
        self.assertEqual(clashing([]), [])

    def test_each_kind_alone(self):
        for kind, paper in zip(KINDS, PAPERS):
            self.assertEqual(standing(list(PAPERS), kind), [paper])
            self.assertEqual(standing([one for one in PAPERS if one != paper], kind), [])
        self.assertEqual(clashing(list(PAPERS)), [])

    def test_the_greatest_edition(self):
        self.every_order([ELDER, NEWER], "return", [NEWER], [])
        self.every_order([ELDER, NEWER, NEWEST], "return", [NEWEST], [])
        first, last = put(ELDER, (2,), 9), put(NEWER, (2,), 10)
        self.every_order([first, last], "return", [last], [])
        first, last = put(ELDER, (2,), 1), put(NEWER, (2,), 99)
        self.every_order([first, last], "return", [last], [])

    def test_two_of_it_alike(self):
        again = tuple(list(NEWER))
        self.every_order([NEWER, again], "return", [NEWER], [])
        self.every_order([ELDER, NEWER, again], "return", [NEWER], [])

    def test_two_of_it_unlike(self):
        self.every_order([NEWER, UNLIKE], "return", [], [("return", 8)])
        # The elder one doesn't stand in their place.
        self.every_order([ELDER, NEWER, UNLIKE], "return", [], [("return", 8)])
        self.every_order([NEWER, UNLIKE, put(NEWER, (5,), 9)], "return", [], [("return", 8)])

    def test_a_newer_edition_settles_it(self):
        self.every_order([NEWER, UNLIKE, NEWEST], "return", [NEWEST], [])
        self.every_order([ELDER, NEWER, UNLIKE, NEWEST], "return", [NEWEST], [])

    def test_unlike_ones_of_an_elder_edition_do_not_matter(self):
        self.every_order([ELDER, put(ELDER, (5,), 9), NEWER], "return", [NEWER], [])

    def test_alike_but_for_one_thing(self):
        for paper in PAPERS:
            for at, (right, wrong) in enumerate(PLACES[paper[0]], start=1):
                if at < 3:
                    continue
                other = put(paper, (at,), [thing for thing in right + (4712,) if thing != paper[at]][0])
                self.every_order([paper, other], paper[0], [], [paper[:2]])
        for path in ((7, 0), (7, 1)):
            self.every_order([WAYBILL, put(WAYBILL, path, 99)], "waybill", [], [("waybill", 7)])
        self.every_order([RULING, put(RULING, (4, 1), "south")], "ruling", [], [("ruling", 5)])

    def test_one_number_of_unlike_kinds(self):
        papers = [put(paper, (1,), 5) for paper in PAPERS]
        for kind, paper in zip(KINDS, papers):
            self.assertEqual(standing(papers, kind), [paper])
        self.assertEqual(clashing(papers), [])

    def test_unlike_editions_of_unlike_kinds(self):
        claim = ("claim", 3, 1, 7, 300)
        answer = ("answer", 3, 2, 3, "east")
        self.every_order([claim, answer], "claim", [claim], [])
        self.every_order([claim, answer], "answer", [answer], [])

    def test_told_by_number(self):
        papers = [put(CLAIM, (1,), number) for number in (10, 9, 100, 1, 9999, 2)]
        told = [put(CLAIM, (1,), number) for number in (1, 2, 9, 10, 100, 9999)]
        self.assertEqual(standing(papers, "claim"), told)
        # Not by edition, nor by what stands behind that.
        papers = [("claim", 1, 9, 9, 9), ("claim", 2, 1, 1, 1), ("claim", 3, 5, 5, 5)]
        self.every_order(papers, "claim", papers, [])

    def test_clashing_ones_by_kind_and_number(self):
        others = (put(WAYBILL, (3,), 32), put(RETURN, (3,), "crewe"), put(TOLL, (3,), "east"), put(CLAIM, (3,), 1),
                  put(ANSWER, (3,), 1), put(RULING, (3,), 1), put(WITHDRAWAL, (3,), 1))
        papers = [put(put(one, (1,), number), (2,), 5)
                  for pair in zip(PAPERS, others) for number in (10, 9, 100) for one in pair]
        told = [(kind, number) for kind in KINDS for number in (9, 10, 100)]
        self.assertEqual(clashing(papers), told)
        self.assertEqual(clashing(papers[::-1]), told)
        for kind in KINDS:
            self.assertEqual(standing(papers, kind), [])

    def test_some_stand_and_some_clash(self):
        papers = [("claim", 2, 1, 7, 5), ("claim", 1, 1, 7, 5), ("claim", 2, 1, 7, 6), ("claim", 3, 2, 7, 6),
                  ("claim", 3, 1, 7, 5), ("answer", 2, 1, 1, "north")]
        stand = [("claim", 1, 1, 7, 5), ("claim", 3, 2, 7, 6)]
        self.every_order(papers, "claim", stand, [("claim", 2)])
        self.assertEqual(standing(papers, "answer"), [("answer", 2, 1, 1, "north")])

    def test_a_kind_that_is_none(self):
        for kind in ("", "none", "Claim"):
            self.assertEqual(standing(list(PAPERS), kind), [])

    def test_four_hundred_papers_in_any_order(self):
        chance = random.Random(13)
        for _ in range(30):
            papers = [("claim", chance.randint(1, 60), chance.randint(1, 4), 7, chance.randint(1, 2)) for _ in range(300)]
            papers += [("withdrawal", chance.randint(1, 20), chance.randint(1, 3), chance.randint(1, 3)) for _ in range(100)]
            stand, clash = by_words(papers)
            chance.shuffle(papers)
            for kind in ("claim", "withdrawal"):
                self.assertEqual(standing(papers, kind), [paper for paper in stand if paper[0] == kind])
            self.assertEqual(clashing(papers), clash)


def by_words(papers):
    """Standing and clashing papers, kind by kind and number by number."""
    stand, clash = [], []
    for kind in KINDS:
        for number in sorted({paper[1] for paper in papers if paper[0] == kind}):
            same = [paper for paper in papers if paper[:2] == (kind, number)]
            best = {paper for paper in same if paper[2] == max(one[2] for one in same)}
            stand += list(best) if len(best) == 1 else []
            clash += [(kind, number)] if len(best) > 1 else []
    return stand, clash


class HandedIn(unittest.TestCase):
    """Point 2: what is handed in stays, what is told is new and the asker's own."""

    def test_any_thing_is_unchanged_behind_the_call(self):
        things = [list(WAYBILL), put(WAYBILL, (7,), [10, 20]), put(RULING, (4,), ["line", "north"]), [["waybill"]]]
        ways, wagons = list(WAYS), list(WAGONS)
        before = copy.deepcopy((things, ways, wagons))
        for thing in things + list(PAPERS):
            fault(NET, ways, wagons, thing)
        self.assertEqual((things, ways, wagons), before)

    def test_changed_ways_and_wagons_are_looked_at_anew(self):
        ways, wagons = list(WAYS), list(WAGONS)
        self.assertEqual(fault(NET, ways, wagons, WAYBILL), -1)
        ways.pop()
        self.assertEqual(fault(NET, ways, wagons, WAYBILL), 4)
        ways.append(WAYS[1])
        wagons.clear()
        self.assertEqual(fault(NET, ways, wagons, WAYBILL), 8)

    def test_papers_are_unchanged_behind_the_call(self):
        papers = [UNLIKE, NEWER, NEWEST, ELDER, *PAPERS, NEWER]
        before = list(papers)
        for kind in KINDS:
            standing(papers, kind)
        clashing(papers)
        self.assertEqual(papers, before)

    def test_a_told_list_is_the_askers_own(self):
        papers = [*PAPERS, NEWER, UNLIKE]
        for asked in (lambda: standing(papers, "claim"), lambda: standing(papers, "return"), lambda: clashing(papers)):
            told, other = asked(), asked()
            kept = list(told)
            self.assertIs(type(told), list)
            told.append(("more", 1))
            told[0] = ("less", 0)
            self.assertEqual(other, kept)
            self.assertEqual(asked(), kept)

    def test_changed_papers_change_nothing_told(self):
        papers = [*PAPERS, NEWER, UNLIKE]
        stand, clash = standing(papers, "claim"), clashing(papers)
        papers.clear()
        self.assertEqual((stand, clash), ([CLAIM], [("return", 8)]))
        self.assertEqual((standing(papers, "claim"), clashing(papers)), ([], []))


if __name__ == "__main__":
    unittest.main()
