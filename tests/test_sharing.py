"""Points 10 and 11, and point 2 as far as these functions go."""

import random
import unittest

from samples import draw_net, draw_way
from throughlines.money import parts
from throughlines.nets import is_net
from throughlines.sharing import divided, penny_of
from throughlines.ways import is_way, legs, line_chains

NET = (
    ("north", "south", "east"),
    (("york", "north"), ("ripon", "north"), ("hull", "south"), ("leeds", "south"), ("bath", "east")),
    (("selby", ("north", "south")), ("crewe", ("south", "east")), ("derby", ("north", "south"))),
    (
        ("york", "selby", "north", 10),
        ("york", "ripon", "north", 5),
        ("selby", "crewe", "south", 20),
        ("crewe", "bath", "east", 70),
        ("selby", "hull", "south", 30),
        ("selby", "derby", "north", 7),
        ("derby", "leeds", "south", 9),
    ),
)
# By its chains north 10, south 20, east 70.
WAY = ("york", "selby", "crewe", "bath")
# South 30, north 7, south 9: its first and its last line are one.
TWICE = ("hull", "selby", "derby", "leeds")
NONE = (0, 0, 0)
MOST_PAID = 2 * 10 ** 9
MOST_TOLL = 4 * 10 ** 11


def by_words(net, way, pence, cartage, end, tolls, leasts):
    """Point 10 step by step, the ahead and the leasts of point 5 written out anew."""
    def some(amount, wishes):
        return list(wishes) if sum(wishes) <= amount else parts(amount, list(wishes))
    first, last = legs(net, way)[0][0], legs(net, way)[-1][0]
    chains = line_chains(net, way)
    lines = [line for line, length in chains]
    told = []
    for text, takers, wishes in (
        ("cartage", [first, last], cartage),
        ("end", [first, last], (end, end)),
        ("toll", lines, [dict(zip(net[0], tolls))[line] for line in lines]),
    ):
        got = some(pence, wishes)
        pence -= sum(got)
        told += [(line, text, amount) for line, amount in zip(takers, got)]
    least = [dict(zip(net[0], leasts))[line] for line in lines]
    if sum(least) > pence:
        rest = parts(pence, least)
    else:
        held = {}
        while True:
            free = [at for at in range(len(lines)) if at not in held]
            got = parts(pence - sum(held.values()), [chains[at][1] for at in free])
            short = [at for at, amount in zip(free, got) if amount < least[at]]
            if not short:
                break
            held.update({at: least[at] for at in short})
        rest = [{**held, **dict(zip(free, got))}[at] for at in range(len(lines))]
    told += [(line, "chains", amount) for line, amount in zip(lines, rest)]
    return [share for share in told if share[2]]


class Divided(unittest.TestCase):
    def told(self, asked, *shares):
        told = divided(NET, *asked)
        self.assertEqual(told, list(shares))
        self.assertEqual(sum(pence for line, text, pence in told), asked[1])
        self.assertEqual(told, by_words(NET, *asked))

    def test_the_net_here(self):
        self.assertTrue(is_net(NET) and is_way(NET, WAY) and is_way(NET, TWICE))

    def test_chains_alone(self):
        self.told((WAY, 1000, (0, 0), 0, NONE, NONE),
                  ("north", "chains", 100), ("south", "chains", 200), ("east", "chains", 700))
        self.told((WAY[::-1], 1000, (0, 0), 0, NONE, NONE),
                  ("east", "chains", 700), ("south", "chains", 200), ("north", "chains", 100))

    def test_the_greatest_rests(self):
        # 19 by 10, 20, 70: 1, 3, 13 and rests 90, 80, 30.
        self.told((WAY, 19, (0, 0), 0, NONE, NONE),
                  ("north", "chains", 2), ("south", "chains", 4), ("east", "chains", 13))

    def test_all_of_them(self):
        self.told((WAY, 2000, (30, 40), 15, (100, 200, 600), (0, 0, 0)),
                  ("north", "cartage", 30), ("east", "cartage", 40),
                  ("north", "end", 15), ("east", "end", 15),
                  ("north", "toll", 100), ("south", "toll", 200), ("east", "toll", 600),
                  ("north", "chains", 100), ("south", "chains", 200), ("east", "chains", 700))

    def test_the_first_and_the_last_line_are_one(self):
        self.told((TWICE, 1000, (30, 40), 15, (3, 4, 500), NONE),
                  ("south", "cartage", 30), ("south", "cartage", 40), ("south", "end", 15), ("south", "end", 15),
                  ("south", "toll", 4), ("north", "toll", 3), ("south", "chains", 757), ("north", "chains", 136))

    def test_a_way_of_one_line(self):
        self.told((("york", "ripon"), 100, (10, 20), 5, (7, 800, 900), (50, 800, 900)),
                  ("north", "cartage", 10), ("north", "cartage", 20), ("north", "end", 5), ("north", "end", 5),
                  ("north", "toll", 7), ("north", "chains", 53))

    def test_tolls_and_leasts_are_in_the_nets_order(self):
        self.told((WAY[::-1], 1000, (0, 0), 0, (1, 2, 3), (900, 0, 0)),
                  ("east", "toll", 3), ("south", "toll", 2), ("north", "toll", 1),
                  ("east", "chains", 73), ("south", "chains", 21), ("north", "chains", 900))
        net = (("east", "north", "south"), NET[1],
               tuple((name, tuple(sorted(lines))) for name, lines in NET[2]), NET[3])
        self.assertTrue(is_net(net))
        self.assertEqual(divided(net, WAY, 6, (0, 0), 0, (1, 2, 3), NONE),
                         [("north", "toll", 2), ("south", "toll", 3), ("east", "toll", 1)])

    def test_other_lines_tolls_and_leasts_take_nothing(self):
        self.told((TWICE, 46, (0, 0), 0, (0, 0, 10 ** 9), (0, 0, 10 ** 9)),
                  ("south", "chains", 39), ("north", "chains", 7))

    def test_cartage(self):
        rest = ("north", "chains", 1)
        self.told((WAY, 100, (60, 39), 0, NONE, (1, 0, 0)), ("north", "cartage", 60), ("east", "cartage", 39), rest)
        self.told((WAY, 100, (60, 40), 9, (5, 5, 5), (1, 1, 1)), ("north", "cartage", 60), ("east", "cartage", 40))
        # A penny more than the sum: 59 and 40 with rests 41 and 60.
        self.told((WAY, 100, (60, 41), 9, (5, 5, 5), (1, 1, 1)), ("north", "cartage", 59), ("east", "cartage", 41))
        self.told((WAY, 100, (3 * 10 ** 8, 10 ** 8), 9, (5, 5, 5), (1, 1, 1)),
                  ("north", "cartage", 75), ("east", "cartage", 25))
        self.told((WAY, 1, (10 ** 9, 10 ** 9), 9, (5, 5, 5), (1, 1, 1)), ("north", "cartage", 1))
        self.told((WAY, 1, (0, 10 ** 9), 0, NONE, NONE), ("east", "cartage", 1))
        self.told((WAY, 1, (0, 1), 0, NONE, NONE), ("east", "cartage", 1))

    def test_ends(self):
        few = ("north", "end", 1), ("east", "end", 1)
        self.told((WAY, 12, (0, 0), 1, NONE, NONE), *few,
                  ("north", "chains", 1), ("south", "chains", 2), ("east", "chains", 7))
        self.told((WAY, 100, (20, 10), 35, (5, 5, 5), NONE), ("north", "cartage", 20), ("east", "cartage", 10),
                  ("north", "end", 35), ("east", "end", 35))
        self.told((WAY, 99, (20, 10), 35, (5, 5, 5), NONE), ("north", "cartage", 20), ("east", "cartage", 10),
                  ("north", "end", 35), ("east", "end", 34))
        self.told((WAY, 61, (20, 10), 10 ** 9, (5, 5, 5), NONE), ("north", "cartage", 20), ("east", "cartage", 10),
                  ("north", "end", 16), ("east", "end", 15))
        self.told((WAY, 31, (20, 10), 10 ** 9, (5, 5, 5), NONE), ("north", "cartage", 20), ("east", "cartage", 10),
                  ("north", "end", 1))

    def test_tolls(self):
        self.told((WAY, 110, (0, 0), 0, (0, 10, 0), NONE), ("south", "toll", 10),
                  ("north", "chains", 10), ("south", "chains", 20), ("east", "chains", 70))
        self.told((WAY, 60, (0, 0), 0, (10, 20, 30), (9, 9, 9)),
                  ("north", "toll", 10), ("south", "toll", 20), ("east", "toll", 30))
        # 59 by 10, 20, 30: 9, 19, 29 and rests 50, 40, 30.
        self.told((WAY, 59, (0, 0), 0, (10, 20, 30), (9, 9, 9)),
                  ("north", "toll", 10), ("south", "toll", 20), ("east", "toll", 29))
        self.told((WAY, 7, (0, 0), 0, (MOST_TOLL, 2 * 10 ** 11, 10 ** 11), (9, 9, 9)),
                  ("north", "toll", 4), ("south", "toll", 2), ("east", "toll", 1))
        self.told((WAY, 12, (1, 1), 1, (0, 0, MOST_TOLL), (9, 9, 9)), ("north", "cartage", 1),
                  ("east", "cartage", 1), ("north", "end", 1), ("east", "end", 1), ("east", "toll", 8))

    def test_leasts(self):
        self.told((WAY, 100, (0, 0), 0, NONE, (10, 20, 70)),
                  ("north", "chains", 10), ("south", "chains", 20), ("east", "chains", 70))
        self.told((WAY, 100, (0, 0), 0, NONE, (50, 30, 20)),
                  ("north", "chains", 50), ("south", "chains", 30), ("east", "chains", 20))
        self.told((WAY, 99, (0, 0), 0, NONE, (50, 30, 20)),
                  ("north", "chains", 49), ("south", "chains", 30), ("east", "chains", 20))
        self.told((WAY, 10, (0, 0), 0, NONE, (10 ** 9, 10 ** 9, 0)), ("north", "chains", 5), ("south", "chains", 5))
        self.told((WAY, 100, (0, 0), 0, NONE, (55, 0, 0)),
                  ("north", "chains", 55), ("south", "chains", 10), ("east", "chains", 35))

    def test_a_least_that_is_held_in_a_later_round(self):
        # 10, 20, 70; north held at 55 leaves 10 and 35; south held at 12 leaves 33.
        self.told((WAY, 100, (0, 0), 0, NONE, (55, 12, 0)),
                  ("north", "chains", 55), ("south", "chains", 12), ("east", "chains", 33))
        self.told((WAY, 170, (10, 20), 10, (5, 15, 0), (55, 12, 0)),
                  ("north", "cartage", 10), ("east", "cartage", 20), ("north", "end", 10), ("east", "end", 10),
                  ("north", "toll", 5), ("south", "toll", 15),
                  ("north", "chains", 55), ("south", "chains", 12), ("east", "chains", 33))

    def test_a_sum_of_0(self):
        self.told((WAY, 0, (0, 0), 0, NONE, NONE))
        self.told((WAY, 0, (10 ** 9, 10 ** 9), 10 ** 9, (MOST_TOLL,) * 3, (10 ** 9,) * 3))
        self.told((TWICE, 0, (5, 0), 1, (1, 1, 1), (1, 1, 1)))

    def test_tuples_of_no_pence_are_left_out(self):
        self.told((WAY, 3, (0, 1), 0, (0, 1, 0), NONE), ("east", "cartage", 1), ("south", "toll", 1),
                  ("east", "chains", 1))

    def test_the_greatest_sums_and_tolls(self):
        self.told((WAY, MOST_PAID, (10 ** 9, 10 ** 9), 10 ** 9, (MOST_TOLL,) * 3, (10 ** 9,) * 3),
                  ("north", "cartage", 10 ** 9), ("east", "cartage", 10 ** 9))
        self.told((WAY, MOST_PAID, (0, 0), 10 ** 9, (MOST_TOLL,) * 3, (10 ** 9,) * 3),
                  ("north", "end", 10 ** 9), ("east", "end", 10 ** 9))
        self.told((WAY, MOST_PAID, (0, 0), 0, (MOST_TOLL,) * 3, (10 ** 9,) * 3),
                  ("north", "toll", 666666667), ("south", "toll", 666666667), ("east", "toll", 666666666))
        self.told((WAY, MOST_PAID, (0, 0), 0, NONE, (10 ** 9,) * 3),
                  ("north", "chains", 666666667), ("south", "chains", 666666667), ("east", "chains", 666666666))
        self.told((WAY, MOST_PAID, (0, 0), 0, NONE, NONE),
                  ("north", "chains", 2 * 10 ** 8), ("south", "chains", 4 * 10 ** 8), ("east", "chains", 14 * 10 ** 8))

    def test_drawn_sums(self):
        chance = random.Random(10)
        found = 0
        while found < 400:
            net = draw_net(chance, chance.randint(2, 6), chance.randint(2, 8), chance.randint(2, 8), 40)
            way = draw_way(chance, net)
            if way is None:
                continue
            found += 1
            pence = chance.randint(0, chance.choice((0, 5, 100, 5000, MOST_PAID)))
            some = [chance.choice((0, 1, max(1, pence // 7), pence // 3, pence + 1)) for _ in range(3)]
            tolls = tuple(chance.choice((0, some[0], chance.randint(0, pence // 3 + 1))) for line in net[0])
            leasts = tuple(chance.choice((0, some[1], chance.randint(0, pence // 5 + 1))) for line in net[0])
            asked = (net, way, pence, (some[2], chance.choice(some) // 5), some[0] // 4, tolls, leasts)
            with self.subTest(asked=asked):
                told = divided(*asked)
                self.assertEqual(told, by_words(*asked))
                self.assertEqual(sum(share[2] for share in told), pence)
                self.pennies(told)

    def pennies(self, shares):
        """The first and the last penny of each tuple are of it."""
        at = 0
        for line, text, pence in shares:
            self.assertEqual(penny_of(shares, at), (line, text))
            at += pence
            self.assertEqual(penny_of(shares, at - 1), (line, text))


class PennyOf(unittest.TestCase):
    SHARES = [("north", "cartage", 3), ("east", "cartage", 1), ("north", "end", 2), ("east", "chains", 4)]

    def test_each_penny(self):
        told = [penny_of(self.SHARES, penny) for penny in range(10)]
        self.assertEqual(told, [("north", "cartage")] * 3 + [("east", "cartage")] + [("north", "end")] * 2
                         + [("east", "chains")] * 4)

    def test_one_penny_alone(self):
        self.assertEqual(penny_of([("north", "toll", 1)], 0), ("north", "toll"))

    def test_the_greatest(self):
        shares = [("north", "cartage", 10 ** 9), ("east", "cartage", 10 ** 9)]
        self.assertEqual([penny_of(shares, penny) for penny in (0, 10 ** 9 - 1, 10 ** 9, MOST_PAID - 1)],
                         [("north", "cartage")] * 2 + [("east", "cartage")] * 2)

    def test_two_tuples_of_one_line_and_text(self):
        shares = divided(NET, TWICE, 3, (1, 1), 1, NONE, NONE)
        self.assertEqual([penny_of(shares, penny) for penny in range(3)],
                         [("south", "cartage"), ("south", "cartage"), ("south", "end")])

    def test_beyond_the_pence_nothing_is_raised(self):
        for penny in (-1, 10, 11, 10 ** 10):
            self.assertEqual(penny_of(self.SHARES, penny), ())
        self.assertEqual(penny_of([], 0), ())

    def test_the_kind_of_what_is_told(self):
        self.assertIs(type(penny_of(self.SHARES, 0)), tuple)


class HandedIn(unittest.TestCase):
    """Point 2: what is handed in stays, what is told is new and the asker's own."""

    ASKED = (NET, WAY, 2000, (30, 40), 15, (100, 200, 600), (0, 0, 0))

    def test_a_told_list_is_the_askers_own(self):
        told, other = divided(*self.ASKED), divided(*self.ASKED)
        kept = list(told)
        self.assertIs(type(told), list)
        self.assertTrue(all(type(share) is tuple for share in told))
        told.append(("more", "end", 1))
        told[0] = ("less", "end", 1)
        self.assertEqual(other, kept)
        self.assertEqual(divided(*self.ASKED), kept)
        divided(NET, TWICE, 70, (30, 40), 15, (100, 200, 600), (0, 0, 0))
        self.assertEqual(other, kept)

    def test_shares_are_unchanged_behind_the_call(self):
        shares = list(PennyOf.SHARES)
        for penny in (0, 3, 9):
            penny_of(shares, penny)
        self.assertEqual(shares, PennyOf.SHARES)

    def test_changed_shares_tell_of_other_pennies(self):
        shares = list(PennyOf.SHARES)
        self.assertEqual(penny_of(shares, 0), ("north", "cartage"))
        del shares[0]
        self.assertEqual(penny_of(shares, 0), ("east", "cartage"))


if __name__ == "__main__":
    unittest.main()
