"""Points 32 and 33, and points 2 and 3 over the desk."""

import random
import unittest

from samples import ANY_THINGS, NET, RULES, WAGONS, WAYS, draw_house, draw_papers, names
from throughlines import errors
from throughlines.desk import Desk
from throughlines.office import Office
from throughlines.texts import show_net, show_paper

HOUSE = (NET, WAYS, WAGONS, RULES)


def house_rows(net, ways, wagons, rules):
    """The rows that set up the house."""
    rows = show_net(net).split("\n")
    rows += ["way " + " ".join(way) for way in ways]
    rows += [f"wagon {number} {line}" for number, line in wagons]
    return rows + ["rules " + " ".join(map(str, rules[:3] + rules[3]))]


ROWS = house_rows(*HOUSE)
# Rows that are none, whether the desk is open or not.
NEVER = (
    "", " ", "  ", "~", "ok", "Open", "open ", " open", "open now", "quit", "month 1", "close 1", "perhaps 1", "astray 20",
    "stop", "stop 1", "stop North", "stop north south", "stop abcdefghi", "account", "account 1", "entries", "entries all",
    "entries 1 2", "entries 01", "entries 00", "entries -1", "entries +1", "entries 12345678901", "closed", "closed one",
    "closed 1 2", "penny", "penny 7", "penny 7 x", "penny north 0", "penny 7 0 0", "penny 7 00", "penny 07 0", "claim",
    "claim north", "claim 3 1", "claim 3 1 7", "claim 03", "history", "history north", "history 20 1", "days", "days north",
    "days 20 20", "papers", "steps 20", "letter 1 1 1", "waybill", "waybill 7 1 1 0 100 0 0 0", "waybill 7 1 1 0 100 0 0 0 20 1",
    "waybill 7 1 1 york 100 0 0 0 20", "waybill 7 1 1 0 100 0 0 -1 20", "waybill 7 1 1 0 100 0 00 0 20",
    "waybill 7 1 1 0 10000000000 0 0 0 201 1", "waybill 7 1 1 0 12345678901 0 0 0 20", "waybill 7 1 1 0 0100 0 0 0 20",
    "return 1 1 selby 3 0 20 south laden", "return 1 1 selby 3 0 20 south whole laden", "return 1 1 5 3 0 20 south laden whole",
    "return 1 1 selby three 0 20 south laden whole", "return 1 1 selby 3 0 20 5 laden whole",
    "return 1 1 selby 3 0 20 south full whole", "return 1 1 selby 3 0 20 south laden torn",
    "return 1 1 abcdefghi 3 0 20 south laden whole", "toll 1 1 south 1 30", "toll 1 1 5 1 30 5", "toll 1 1 south 1 30 five",
    "claim 3 1 7 north", "claim 3 1 7 300 1", "answer 1 1 3", "answer 1 1 3 5", "answer 1 1 3 south 1",
    "ruling 1 1 3", "ruling 1 1 3 line", "ruling 1 1 3 line 5", "ruling 1 1 3 line north south", "ruling 1 1 3 seals north",
    "ruling 1 1 3 none north", "ruling 1 1 3 nobody", "ruling 1 1 3 north", "withdrawal 1 1", "withdrawal 1 1 3 3",
    "withdrawal 1 1 north", "close\n", "month\nmonth", "month  ", "entries  0", "stop  north", "claim 3 1  7 300",
)
# What is a row ahead of the opening, and none behind it.
SETTING = ("line west", "station leeds north", "junction derby north south", "tie york leeds north 5", "way york ripon",
           "wagon 40 north", "rules 0 0 0 0 0 0", "junction derby north", "way a b", "rules 0 0 0 0", "open")
# What is a row behind the opening, and none ahead of it.
ASKING = ("close", "stop north", "month", "entries 0", "account north", "closed 1", "penny 7 0", "claim 3", "perhaps",
          "astray", "history 20", "days 20", "waybill 7 1 1 0 100 0 0 0 20", "return 1 1 selby 3 0 20 south laden whole",
          "toll 1 1 south 1 30 5", "claim 3 1 7 300", "answer 1 1 3 south", "ruling 1 1 3 seals", "ruling 1 1 3 line north",
          "withdrawal 1 1 3")


def open_desk(*rows, house=ROWS):
    desk = Desk()
    for row in list(house) + ["open"] + list(rows):
        desk.say(row)
    return desk


class Looked(unittest.TestCase):
    def said(self, desk, *pairs):
        """Rows and answers by turns."""
        for row, wanted in zip(pairs[::2], pairs[1::2]):
            told = desk.say(row)
            self.assertEqual(told, wanted, row)
            self.assertIs(type(told), str)

    def refused(self, error, desk, row):
        with self.assertRaises(errors.HouseError, msg=repr(row)[:200]) as caught:
            desk.say(row)
        self.assertIs(type(caught.exception), error, repr(row)[:200])
        return caught.exception

    def all_told(self, desk):
        """All that an open desk tells of the small house."""
        rows = ["month", "entries 0", "perhaps", "astray", "history 20", "days 20", "history 30", "days 30"]
        rows += [f"account {line}" for line in NET[0]] + [f"claim {number}" for number in range(1, 6)]
        rows += [f"{word} {month}" for month in range(1, int(desk.say("month"))) for word in ("entries", "closed")]
        return [desk.say(row) for row in rows]


class SetUp(Looked):
    """Point 32: the house."""

    def test_each_row_is_answered_ok(self):
        desk = Desk()
        for row in ROWS + ["open"]:
            self.said(desk, row, "ok")
        self.said(desk, "month", "1")

    def test_in_several_orders(self):
        # Any order that leaves each kind's rows in theirs.
        chance = random.Random(32)
        for _ in range(30):
            kinds = [row.split()[0] for row in ROWS]
            chance.shuffle(kinds)
            left = list(ROWS)
            desk = Desk()
            for kind in kinds:
                row = next(row for row in left if row.split()[0] == kind)
                left.remove(row)
                desk.say(row)
            self.said(desk, "open", "ok", "waybill 7 1 1 0 100 0 0 0 20", "new")
            self.assertEqual(sorted(desk.say("close").split()), ["north,east,70", "north,south,20"])
            self.said(desk, "entries 0", "1,1,waybill,7,0,-90,20,70")

    def test_each_kind_in_the_order_in_which_it_came(self):
        # Ways exchanged: the first one is now the one to hull.
        rows = [row for row in ROWS if not row.startswith("way")]
        desk = open_desk("waybill 7 1 1 0 40 0 0 0 20", "close",
                         house=["way york selby hull", "way york selby crewe bath"] + rows)
        self.said(desk, "entries 0", "1,1,waybill,7,0,-30,30,0")
        # Lines in another order: so are the amounts.
        rows = ["line east", "line north", "line south", "junction selby north south", "junction crewe east south"]
        rows += [row for row in ROWS if row.split()[0] not in ("line", "junction")]
        desk = open_desk("waybill 7 1 1 0 100 0 0 0 20", "close", house=rows)
        self.said(desk, "entries 0", "1,1,waybill,7,0,70,-90,20")

    def test_wagons_by_number(self):
        rows = [row for row in ROWS if not row.startswith("wagon")]
        for wagons in (["wagon 9999 east", "wagon 30 south", "wagon 20 north"], ["wagon 30 south", "wagon 100 north"],
                       ["wagon 9 north", "wagon 100 north", "wagon 20 north"]):
            desk = Desk()
            for row in rows + wagons:
                desk.say(row)
            self.said(desk, "open", "ok")

    def test_the_rules_told_last(self):
        bill = "waybill 7 1 1 0 120 0 0 0 20"
        desk = open_desk(bill, "close", house=["rules 10 0 0 0 0 0"] + ROWS)
        self.said(desk, "entries 0", "1,1,waybill,7,0,-108,24,84")
        desk = open_desk(bill, "close", house=ROWS + ["rules 10 0 0 0 0 0"])
        self.said(desk, "entries 0", "1,1,waybill,7,0,-100,20,80")
        desk = open_desk(bill, "close", house=ROWS + ["rules 10 0 0 0", "rules 10 0 0 0 0 0"])
        self.said(desk, "entries 0", "1,1,waybill,7,0,-100,20,80")

    def test_no_rules_are_noughts(self):
        rows = [row for row in ROWS if not row.startswith("rules")]
        desk = open_desk("waybill 7 1 1 0 100 0 0 0 20", "return 1 1 selby 1 0 20 south laden whole",
                         "return 2 1 selby 30 0 20 north empty whole", "close", house=rows)
        self.said(desk, "entries 0", "1,1,waybill,7,0,-90,20,70")
        # Without leasts a single penny goes by the chains.
        self.said(desk, "waybill 8 1 1 0 1 0 0 0 20", "new", "penny 8 0", "east,chains,0,0")

    def test_the_least_house(self):
        self.said(open_desk(house=["line a"]), "month", "1", "account a", "0", "close", "-", "closed 1", "0;0;-")

    def test_by_its_words_alone(self):
        # No net comes of these, but each is a row.
        desk = Desk()
        for row in ("line a", "line a", "station a b", "junction a b", "junction a a a a", "tie a a a 0",
                    "tie a b c 9999999999", "way a b", "way a a a", "wagon 0 a", "wagon 9999999999 abcdefgh", "rules 0 0 0 0",
                    "rules 9999999999 31 0 0 0 0 0 0 0 0 0", "way " + " ".join(names(26))):
            self.said(desk, row, "ok")
        self.refused(errors.NoNet, desk, "open")

    def test_rows_that_are_none(self):
        desk = Desk()
        for row in (
            "line", "line a b", "line A", "line a1", "line 1", "line abcdefghi", "line a ", " line a", "line  a", "Line a",
            "lines a", "station a", "station a b c", "station 1 a", "station a 1", "junction", "junction a", "junction a 1",
            "junction 1 a", "junction a b C", "tie a b c", "tie a b c d", "tie a b c 1 2", "tie a b 1 c", "tie a b c 01",
            "tie a b c -1", "tie a b c +1", "tie a b c 1.0", "tie a b c 12345678901", "tie a b c 00", "way", "way a", "way a 1",
            "way a B", "wagon 1", "wagon a 1", "wagon 1 a b", "wagon 01 a", "wagon -1 a", "wagon 12345678901 a", "wagon a a",
            "rules", "rules 0", "rules 0 0", "rules 0 0 0", "rules 0 0 0 a", "rules a 0 0 0", "rules 0 0 0 00",
            "rules 0 0 0 0 01", "rules -1 0 0 0", "rules 12345678901 0 0 0", "open open", "open 1", "line\na", "line a\n",
            "line a\nline b", "rules 0 0 0 0\n", "tie a b c 1\n",
        ) + NEVER + ASKING:
            self.refused(errors.NoSaying, desk, row)
        # None of them was kept.
        self.said(desk, "line a", "ok", "open", "ok", "account a", "0")

    def test_what_is_no_text(self):
        desk = Desk()
        for thing in ANY_THINGS + (["open"], ("line", "a"), ["line a"], ("open",)):
            self.refused(errors.NoSaying, desk, thing)
        self.said(desk, "line a", "ok", "open", "ok")

    def test_open_refused_then_mended(self):
        desk = Desk()
        self.refused(errors.NoNet, desk, "open")
        self.said(desk, "station york north", "ok")
        self.refused(errors.NoNet, desk, "open")
        self.said(desk, "line north", "ok", "way york ripon", "ok", "wagon 5 south", "ok", "rules 0 0 0 0 0", "ok")
        self.refused(errors.NoWay, desk, "open")
        self.said(desk, "station ripon north", "ok")
        self.refused(errors.NoWay, desk, "open")
        self.said(desk, "tie york ripon north 4", "ok")
        self.refused(errors.NoWagon, desk, "open")
        self.refused(errors.NoSaying, desk, "month")
        self.said(desk, "line south", "ok", "open", "ok", "month", "1")

    def test_rules_mended(self):
        desk = Desk()
        self.said(desk, "line north", "ok", "rules 0 31 0 0", "ok")
        for rules in ("rules 0 0 0 0 0", "rules 1000000001 0 0 0", "rules 0 0 0 1000000001", "rules 0 0 0 0 0 0 0 0 0 0"):
            self.refused(errors.NoRules, desk, "open")
            self.said(desk, rules, "ok")
        self.refused(errors.NoRules, desk, "open")
        self.said(desk, "rules 1000000000 30 1000000000 1000000000", "ok", "open", "ok")

    def test_what_cannot_be_mended(self):
        desk = Desk()
        self.said(desk, "line north", "ok", "wagon 5 north", "ok", "wagon 5 north", "ok")
        self.refused(errors.NoWagon, desk, "open")
        self.said(desk, "wagon 6 north", "ok")
        self.refused(errors.NoWagon, desk, "open")
        desk = Desk()
        for name in names(9):
            desk.say(f"line {name}")
        self.refused(errors.NoNet, desk, "open")

    def test_the_first_of_two_refusals(self):
        desk = Desk()
        self.said(desk, "way a b", "ok", "wagon 0 a", "ok", "rules 0 99 0 0", "ok")
        self.refused(errors.NoNet, desk, "open")
        self.said(desk, "line north", "ok")
        self.refused(errors.NoWay, desk, "open")
        desk = Desk()
        self.said(desk, "line north", "ok", "wagon 0 a", "ok", "rules 0 99 0 0", "ok")
        self.refused(errors.NoWagon, desk, "open")

    def test_rows_of_the_house_behind_the_opening(self):
        desk = open_desk()
        kept = self.all_told(desk)
        for row in SETTING + tuple(ROWS):
            self.refused(errors.NoSaying, desk, row)
        self.assertEqual(self.all_told(desk), kept)
        self.refused(errors.NoWagon, desk, "history 40")
        self.refused(errors.NoLine, desk, "account west")

    def test_rows_of_the_office_ahead_of_the_opening(self):
        desk = Desk()
        for row in ROWS:
            for asked in ASKING:
                self.refused(errors.NoSaying, desk, asked)
            desk.say(row)
        desk.say("open")
        self.said(desk, "month", "1", "entries 0", "-", "stop north", "ok")


class Answers(Looked):
    """Point 32: the rows behind the opening."""

    def test_papers(self):
        desk = open_desk()
        for row in ("waybill 7 1 30 0 100 0 3 4 20", "return 1 1 selby 3 0 20 south laden whole",
                    "return 2 1 selby 3 0 4711 south empty broken", "toll 1 1 south 1 420 5", "claim 3 1 7 300",
                    "answer 1 1 3 south", "ruling 1 1 3 seals", "ruling 2 1 3 none", "ruling 3 1 3 line north",
                    "withdrawal 1 1 3"):
            self.said(desk, row, "new", row, "double")

    def test_an_empty_office(self):
        desk = open_desk()
        self.said(desk, "month", "1", "entries 0", "-", "account north", "0", "claim 3", "none", "perhaps", "-",
                  "astray", "-", "history 20", "-", "days 20", "-", "close", "-", "month", "2", "entries 1", "-",
                  "closed 1", "0,0,0;0,0,0;-")

    def test_closing(self):
        desk = open_desk("waybill 7 1 1 0 0 40 0 40 20", "waybill 8 1 1 1 40 0 0 0 20")
        self.said(desk, "close", "north,south,30", "month", "2", "entries 0", "1,1,waybill,8,0,-30,30,0",
                  "entries 1", "1,1,waybill,8,0,-30,30,0", "account north", "-30", "account south", "30", "account east", "0",
                  "closed 1", "-30,30,0;-30,30,0;north,south,30")
        self.said(desk, "waybill 8 2 1 1 80 0 0 0 20", "new", "close", "north,south,30",
                  "entries 2", "2,2,waybill,8,1,30,-30,0 3,2,waybill,8,0,-60,60,0",
                  "entries 0", "1,1,waybill,8,0,-30,30,0 2,2,waybill,8,1,30,-30,0 3,2,waybill,8,0,-60,60,0",
                  "close", "-", "closed 3", "0,0,0;0,0,0;-")

    def test_several_payments(self):
        desk = open_desk("waybill 7 1 1 0 100 0 0 0 20")
        told = desk.say("close")
        self.assertEqual(sorted(told.split(" ")), ["north,east,70", "north,south,20"])
        self.said(desk, "closed 1", f"-90,20,70;-90,20,70;{told}")

    def test_stopped(self):
        desk = open_desk("waybill 8 1 1 1 40 0 0 0 20")
        self.said(desk, "stop north", "ok", "close", "-", "closed 1", "-30,30,0;0,0,0;-")
        self.refused(errors.Stopped, desk, "stop north")
        self.refused(errors.NoLine, desk, "stop west")

    def test_entries_of_claims_and_hire(self):
        desk = open_desk("waybill 7 1 1 2 5 0 0 0 20", "claim 3 1 7 300", "answer 1 1 3 south",
                         "return 1 1 selby 1 0 20 south laden whole", "return 2 1 selby 5 0 20 north empty whole", "close")
        self.said(desk, "entries 0", "1,1,claim,3,0,300,-300,0 2,1,hire,20,1,0,6,-6,0", "claim 3", "answers")

    def test_penny(self):
        desk = open_desk("waybill 7 1 1 0 100 0 5 0 20")
        self.said(desk, "penny 7 0", "north,cartage,0,0", "penny 7 99", "east,chains,0,0")
        desk.say("close")
        self.said(desk, "penny 7 4", "north,cartage,1,1", "penny 7 5", "north,chains,1,1")
        self.refused(errors.NoBill, desk, "penny 7 100")
        self.refused(errors.NoBill, desk, "penny 8 0")
        self.refused(errors.NoBill, desk, "penny 9999999999 9999999999")

    def test_claim(self):
        desk = open_desk("waybill 7 1 1 0 100 0 0 0 20")
        self.said(desk, "claim 3", "none", "claim 3 1 7 300", "new", "claim 3", "open", "answer 1 1 3 south", "new",
                  "claim 3", "answers", "ruling 1 1 3 none", "new", "claim 3", "nobody", "ruling 2 1 3 seals", "new",
                  "claim 3", "seals", "ruling 3 1 3 line north", "new", "claim 3", "line", "withdrawal 1 1 3", "new",
                  "claim 3", "withdrawn", "claim 0", "none", "claim 9999999999", "none")

    def test_perhaps(self):
        desk = open_desk("return 9 1 crewe 6 0 20 east laden whole", "return 5 1 selby 5 0 21 south laden whole",
                         "return 4 1 selby 5 0 4711 south laden whole")
        self.said(desk, "perhaps", "4,- 5,20")
        rows = [row for row in ROWS if not row.startswith("wagon")] + ["wagon 20 north", "wagon 22 north"]
        desk = open_desk("return 9 1 crewe 6 0 20 east laden whole", "return 8 1 crewe 6 0 22 east laden whole",
                         "return 5 1 selby 5 0 21 south laden whole", house=rows)
        self.said(desk, "perhaps", "5,20+22")

    def test_astray(self):
        desk = open_desk("return 1 1 selby 1 0 20 south laden whole", "return 2 1 crewe 2 0 20 east empty whole",
                         "return 3 1 crewe 3 0 20 south laden whole", "return 4 1 crewe 4 0 20 east empty whole")
        self.said(desk, "astray", "20,2 20,4")

    def test_history_and_days(self):
        desk = open_desk("return 1 1 selby 3 0 20 south laden whole", "return 2 1 crewe 5 0 20 south laden whole",
                         "return 3 1 selby 7 0 20 north empty whole", "return 4 1 crewe 4 0 9999 east laden whole")
        self.said(desk, "history 20", "held,1,north,south gap,south+east held,2,east,south held,3,south,north",
                  "days 20", "3,gap,2 4,gap,2 5,line,south 6,line,south 7,line,north", "history 30", "-", "days 30", "-",
                  "history 9999", "gap,east+south held,4,south,east", "days 9999", "4,line,east")
        desk = open_desk("return 1 1 crewe 3 0 20 south laden whole", "return 2 1 selby 5 0 20 south laden whole")
        self.said(desk, "history 20", "aside,1 held,2,north,south", "perhaps", "1,-")

    def test_what_the_office_refuses(self):
        desk = open_desk()
        for row in ("history 21", "days 21", "history 0", "days 9999999999"):
            self.refused(errors.NoWagon, desk, row)
        for row in ("entries 1", "entries 15", "entries 9999999999", "closed 0", "closed 1"):
            self.refused(errors.NoMonth, desk, row)
        for row in ("account west", "account york", "stop york"):
            self.refused(errors.NoLine, desk, row)
        self.refused(errors.NotYet, desk, "waybill 7 1 31 0 100 0 0 0 20")
        self.refused(errors.NotYet, desk, "return 1 1 selby 31 0 20 south laden whole")
        for number in range(1, 401):
            desk.say(f"claim {number} 1 7 300")
        self.refused(errors.TooMany, desk, "claim 401 1 7 300")
        self.said(desk, "claim 400 1 7 300", "double")
        for _ in range(14):
            self.said(desk, "close", "-")
        self.said(desk, "month", "15")
        self.refused(errors.TooLate, desk, "close")
        self.refused(errors.TooLate, desk, "claim 400 1 7 300")

    def test_no_paper_with_its_fault(self):
        desk = open_desk()
        for row, where in (
            ("waybill 0 1 1 0 100 0 0 0 20", 1), ("waybill 7 0 1 0 100 0 0 0 20", 2), ("waybill 7 1 421 0 100 0 0 0 20", 3),
            ("waybill 7 1 1 4 100 0 0 0 20", 4), ("waybill 7 1 1 0 1000000001 0 0 0 20", 5),
            ("waybill 7 1 1 0 100 9999999999 0 0 20", 6), ("waybill 7 1 1 0 100 0 1000000001 0 20", 7),
            ("waybill 7 1 1 0 100 0 0 1000000001 20", 7), ("waybill 7 1 1 0 100 0 0 0 21", 8),
            ("return 1 1 york 3 0 20 south laden whole", 3), ("return 1 1 selby 3 24 20 south laden whole", 5),
            ("return 1 1 selby 3 0 0 south laden whole", 6), ("return 1 1 selby 3 0 20 east laden whole", 7),
            ("toll 1 1 west 1 30 5", 3), ("toll 1 1 south 5 4 5", 5), ("claim 3 1 0 300", 3), ("claim 3 1 7 1000000001", 4),
            ("answer 1 1 3 west", 4), ("ruling 1 1 3 line west", 4), ("ruling 1 100 3 seals", 2), ("withdrawal 1 1 10000", 3),
            ("waybill 10000 0 1 0 100 0 0 0 20", 1),
        ):
            self.assertEqual(self.refused(errors.NoPaper, desk, row).where, where, row)
        self.said(desk, "close", "-", "entries 0", "-")

    def test_rows_that_are_none(self):
        desk = open_desk("waybill 7 1 1 0 100 0 0 0 20", "claim 3 1 7 300", "close")
        kept = self.all_told(desk)
        for row in NEVER + SETTING:
            self.refused(errors.NoSaying, desk, row)
        self.assertEqual(self.all_told(desk), kept)

    def test_what_is_no_text(self):
        desk = open_desk("waybill 7 1 1 0 100 0 0 0 20")
        kept = self.all_told(desk)
        for thing in ANY_THINGS + (["month"], ("month",), ("claim", 3, 1, 7, 300), True, 1):
            self.refused(errors.NoSaying, desk, thing)
        self.assertEqual(self.all_told(desk), kept)

    def test_blanks(self):
        desk = open_desk()
        for row in ASKING:
            for other in (row + " ", " " + row, row.replace(" ", "  "), row.replace(" ", "  ", 1), row + "\n", "  " + row):
                if other != row:
                    self.refused(errors.NoSaying, desk, other)
        self.said(desk, "month", "1", "entries 0", "-", "claim 3", "none")

    def test_every_word_put_otherwise(self):
        """A name where a number is to be, and the other way about; a word too few, one too many."""
        desk = open_desk("waybill 7 1 1 0 100 0 0 0 20", "claim 3 1 7 300", "close")
        kept = self.all_told(desk)
        for row in ASKING:
            words = row.split(" ")
            for at in range(1, len(words)):
                if words[at] in ("seals", "line", "laden", "whole"):
                    others = ["other", "1"]
                elif words[at].isdigit():
                    others = ["other", "0" + words[at], "12345678901", "-1", "1.", "1a"]
                else:
                    others = ["1", "North", "abcdefghi", "north1", "-"]
                for other in others:
                    self.refused(errors.NoSaying, desk, " ".join(words[:at] + [other] + words[at + 1:]))
            self.refused(errors.NoSaying, desk, row + " 1 1 1 1 1")
            self.refused(errors.NoSaying, desk, row + " north")
            if len(words) > 1:
                self.refused(errors.NoSaying, desk, words[0] + " x" * 12)
        self.assertEqual(self.all_told(desk), kept)

    def test_names_like_the_words(self):
        desk = open_desk(house=["line line", "line seals", "station laden line", "station whole seals",
                                "junction none line seals", "tie laden none line 1", "tie none whole seals 1",
                                "way laden none whole", "wagon 1 line"])
        self.said(desk, "waybill 7 1 1 0 10 0 0 0 1", "new", "claim 3 1 7 4", "new", "answer 1 1 3 line", "new",
                  "answer 2 1 3 seals", "new", "toll 1 1 line 1 1 0", "new", "return 1 1 none 1 0 1 seals laden whole", "new",
                  "close", "line,seals,3", "ruling 1 1 3 line line", "new", "claim 3", "line", "ruling 2 1 3 line seals", "new",
                  "close", "seals,line,2", "history 1", "held,1,line,seals", "stop line", "ok", "account seals", "1")

    def test_ten_figures(self):
        desk = open_desk()
        self.assertEqual(self.refused(errors.NoPaper, desk, "claim 9999999999 1 7 300").where, 1)
        self.refused(errors.NoSaying, desk, "claim 10000000000 1 7 300")
        self.said(desk, "claim 9999999999", "none")
        self.refused(errors.NoSaying, desk, "claim 99999999990")


def show(thing):
    """Point 32's answers anew, of tuples within a list, and of what is within these."""
    if isinstance(thing, (tuple, list)):
        return "+".join(map(str, thing)) or "-"
    return str(thing) or "-"


def show_all(rows):
    return " ".join(",".join(map(show, row)) for row in rows) or "-"


class TheWhole(Looked):
    """The desk answers as the office tells."""

    def test_drawn_desks(self):
        chance = random.Random(33)
        for _ in range(40):
            house = draw_house(chance)
            net, ways, wagons, rules = house
            office, desk = Office(*house), open_desk(house=house_rows(*house))
            for month in range(1, 4):
                for paper in draw_papers(chance, house, 20, 30 * month):
                    self.said(desk, show_paper(paper), office.take(paper))
                if chance.random() < 0.3 and month == 2:
                    office.stop(net[0][0])
                    self.said(desk, f"stop {net[0][0]}", "ok")
                self.said(desk, "close", show_all(office.close()), "month", str(office.open_month()))
                accounts, borne, payments = office.closed(month)
                self.said(desk, f"closed {month}", f"{show_all([accounts])};{show_all([borne])};{show_all(payments)}")
                for asked in (0, month):
                    told = [(number, on, *key, turns, *amounts) for number, on, key, turns, amounts in office.entries(asked)]
                    self.said(desk, f"entries {asked}", show_all(told))
            for line in net[0]:
                self.said(desk, f"account {line}", str(office.account(line)))
            for number in range(1, 7):
                self.said(desk, f"claim {number}", office.claim_state(number))
                try:
                    self.said(desk, f"penny {number} 5", show_all([office.penny(number, 5)]))
                except errors.NoBill:
                    self.refused(errors.NoBill, desk, f"penny {number} 5")
            self.said(desk, "perhaps", show_all(office.perhaps()), "astray", show_all(office.astray_ones()))
            for number, line in wagons:
                days = [(day, *place) for day, place in office.days(number)]
                self.said(desk, f"history {number}", show_all(office.steps(number)), f"days {number}", show_all(days))

    def test_two_desks_by_turns(self):
        first, second = Desk(), Desk()
        for row in ROWS:
            self.said(first, row, "ok")
        self.refused(errors.NoNet, second, "open")
        self.said(first, "open", "ok")
        self.said(second, "line a", "ok", "open", "ok")
        self.said(first, "waybill 7 1 1 0 100 0 0 0 20", "new", "stop north", "ok")
        self.said(second, "month", "1", "entries 0", "-", "close", "-")
        self.refused(errors.NoLine, second, "stop north")
        self.refused(errors.NoLine, first, "account a")
        self.said(first, "month", "1", "close", "-", "entries 0", "1,1,waybill,7,0,-90,20,70")
        self.said(second, "month", "2", "entries 0", "-")
        third = open_desk()
        self.said(third, "stop north", "ok", "waybill 7 1 1 0 100 0 0 0 20", "new")

    def test_what_is_refused_changes_nothing(self):
        rows = ["waybill 7 1 1 0 100 0 0 0 20", "claim 3 1 7 300", "close", "ruling 1 1 3 seals", "close"]
        plain, tried = open_desk(), open_desk()
        for row in rows:
            for other in ("close now", "stop west", "waybill 8 1 1 9 100 0 0 0 20", "waybill 8 1 420 0 100 0 0 0 20",
                          "closed 9", "line west", "open", "penny 8 0", "history 21", ""):
                self.assertRaises(errors.HouseError, tried.say, other)
            self.assertEqual(plain.say(row), tried.say(row))
        self.assertEqual(self.all_told(plain), self.all_told(tried))


if __name__ == "__main__":
    unittest.main()
