"""Point 30, and point 2 as far as it goes."""

import copy
import random
import unittest

from samples import (
    ANY_THINGS, NET, WAGONS, WAYS, answer, bill, claim, draw_house, draw_net, draw_papers, names, ruling, toll,
)
from throughlines.errors import HouseError, NoText
from throughlines.nets import is_net
from throughlines.papers import fault
from throughlines.texts import read_net, read_paper, show_net, show_paper

TEXT = """line north
line south
line east
station york north
station ripon north
station hull south
station bath east
junction selby north south
junction crewe south east
tie york ripon north 5
tie york selby north 10
tie selby hull south 30
tie selby crewe south 20
tie crewe bath east 70"""

PAPERS = {
    "waybill 7 2 31 1 500 40 10 20 20": ("waybill", 7, 2, 31, 1, 500, 40, (10, 20), 20),
    "waybill 9999 99 420 3 1000000000 0 0 1000000000 9999": ("waybill", 9999, 99, 420, 3, 10 ** 9, 0, (0, 10 ** 9), 9999),
    "waybill 1 1 1 0 0 0 0 0 20": bill(1, day=1, paid=0),
    "return 8 1 selby 33 14 4711 south laden whole": ("return", 8, 1, "selby", 33, 14, 4711, "south", "laden", "whole"),
    "return 8 1 crewe 1 0 1 east empty broken": ("return", 8, 1, "crewe", 1, 0, 1, "east", "empty", "broken"),
    "toll 9 1 south 5 60 25": toll(9, "south", 5, 60, 25),
    "toll 9 1 south 5 5 0": toll(9, "south", 5, 5, 0),
    "claim 3 1 7 300": claim(pence=300),
    "answer 4 1 3 east": answer(4, "east"),
    "ruling 5 1 3 seals": ruling(5, "seals"),
    "ruling 5 1 3 none": ruling(5, "none"),
    "ruling 4 1 17 line north": ruling(4, "line", "north", of=17),
    "withdrawal 6 1 3": ("withdrawal", 6, 1, 3),
}


class Looked(unittest.TestCase):
    def refused(self, ask, *things):
        with self.assertRaises(NoText, msg=repr(things)[-300:]) as caught:
            ask(*things)
        self.assertIsInstance(caught.exception, HouseError)

    def no_net(self, *things):
        for thing in things:
            self.refused(read_net, thing)

    def no_paper(self, *things):
        for thing in things:
            self.refused(read_paper, NET, WAYS, WAGONS, thing)


def spoiled(text):
    """The text with a sign left out, put in or put otherwise, wherever that is."""
    for at in range(len(text) + 1):
        for sign in " \n0a-":
            yield text[:at] + sign + text[at:]
        if at < len(text):
            yield text[:at] + text[at + 1:]
            for sign in " \n0aZ~+":
                yield text[:at] + sign + text[at + 1:]


class Nets(Looked):
    def test_written(self):
        self.assertEqual(show_net(NET), TEXT)
        self.assertEqual(show_net((("a",), (), (), ())), "line a")
        self.assertEqual(show_net((("b", "a"), (), (("a", ("b", "a")),), ())), "line b\nline a\njunction a b a")

    def test_read(self):
        self.assertEqual(read_net(TEXT), NET)
        self.assertEqual(read_net("line a"), (("a",), (), (), ()))
        self.assertEqual(read_net("line b\nline a\njunction a b a"), (("b", "a"), (), (("a", ("b", "a")),), ()))

    def test_each_drawn_net(self):
        chance = random.Random(30)
        for _ in range(100):
            net = draw_net(chance, chance.randint(2, 8), chance.randint(0, 16), chance.randint(0, 12), 40)
            self.assertTrue(is_net(net))
            text = show_net(net)
            self.assertEqual(text.count("\n") + 1, sum(map(len, net)))
            self.assertEqual(read_net(text), net)
            self.assertEqual(show_net(read_net(text)), text)

    def test_the_greatest_net(self):
        lines = names(8, 8)
        places = names(28, 7)
        stations = tuple((name, lines[0]) for name in places[:16])
        junctions = tuple((name, lines) for name in places[16:])
        ties = tuple((one, far, lines[0], 9999) for one in places for far in places if one < far)[:40]
        net = (lines, stations, junctions, ties)
        self.assertTrue(is_net(net))
        self.assertEqual(read_net(show_net(net)), net)

    def test_names_like_the_words(self):
        net = (("line", "tie"), (("station", "line"), ("junction", "tie")), (("line", ("line", "tie")),),
               (("station", "line", "line", 1), ("junction", "line", "tie", 9999)))
        self.assertTrue(is_net(net))
        self.assertEqual(read_net(show_net(net)), net)

    def test_any_thing(self):
        self.no_net(*ANY_THINGS)
        self.no_net(NET, [TEXT], (TEXT,), TEXT.split("\n"), [["line", "a"]], ("line", "a"), True)

    def test_blanks_and_line_ends(self):
        self.no_net("", " ", "\n", "\n\n", TEXT + "\n", "\n" + TEXT, TEXT + " ", " " + TEXT, TEXT + "\n\n", TEXT + " \n")
        for at, sign in enumerate(TEXT):
            if sign == " ":
                self.no_net(TEXT[:at] + " " + TEXT[at:], TEXT[:at] + TEXT[at + 1:], TEXT[:at] + "\n" + TEXT[at + 1:])
            if sign == "\n":
                self.no_net(TEXT[:at] + "\n" + TEXT[at:], TEXT[:at] + " " + TEXT[at:], TEXT[:at + 1] + " " + TEXT[at + 1:],
                            TEXT[:at] + TEXT[at + 1:], TEXT[:at] + " " + TEXT[at + 1:])

    def test_figures(self):
        for number in ("05", "005", "+5", "-5", "5.", "5,", "0x5", "five", "a", "", "0", "10000", "99999999999", "5 5", "5a",
                       "5" * 3000, "0" * 3000, "\u0665"):
            self.no_net(TEXT.replace("ripon north 5", "ripon north " + number))
        for number in ("1", "9999", "50", "10"):
            self.assertEqual(read_net(TEXT.replace("ripon north 5", "ripon north " + number))[3][0][3], int(number))

    def test_rows_exchanged_between_kinds(self):
        rows = TEXT.split("\n")
        for at in range(len(rows) - 1):
            swapped = list(rows)
            swapped[at:at + 2] = swapped[at + 1], swapped[at]
            text = "\n".join(swapped)
            if rows[at].split()[0] != rows[at + 1].split()[0]:
                self.no_net(text)
            elif rows[at].split()[0] != "line":
                self.assertNotEqual(read_net(text), NET)
                self.assertEqual(show_net(read_net(text)), text)
        # Lines exchanged: then those of the junctions are in another order than the net's.
        self.no_net("\n".join([rows[1], rows[0]] + rows[2:]), "\n".join(rows[::-1]))

    def test_rows_left_out_or_twice(self):
        rows = TEXT.split("\n")
        for at, row in enumerate(rows):
            self.no_net("\n".join(rows[:at] + [row] + rows[at:]))
            left = "\n".join(rows[:at] + rows[at + 1:])
            if row.startswith("tie"):
                self.assertEqual(show_net(read_net(left)), left)
            else:
                self.no_net(left)

    def test_other_rows(self):
        for row in ("way york selby hull", "wagon 20 north", "rules 0 0 0 0 0 0", "open", "line", "line a b", "lines west",
                    "Line west", "line West", "station leeds", "station leeds north south", "junction leeds",
                    "junction leeds north", "junction leeds west north", "tie york bath north", "tie york hull north 5 5",
                    "tie york leeds north 5", "tie selby york north 7", "station york south", "line abcdefghi", "north",
                    "tie 5 york north 5", "claim 3 1 7 300"):
            kind = row.split()[0]
            at = {"line": 3, "station": 7, "junction": 9}.get(kind, 14)
            rows = TEXT.split("\n")
            self.no_net("\n".join(rows[:at] + [row] + rows[at:]))

    def test_a_text_that_writes_what_is_no_net(self):
        self.no_net("station york north", "line a\nline a", "line a\nstation b c", "line a\nline b\njunction c b a",
                    "line a\njunction c a", "\n".join(f"line {name}" for name in names(9)))

    def test_every_sign(self):
        text = show_net((("a", "b"), (("c", "a"),), (("d", ("a", "b")),), (("c", "d", "a", 10),)))
        self.assertEqual(show_net(read_net(text)), text)
        let_by = 0
        for other in spoiled(text):
            try:
                net = read_net(other)
            except NoText:
                continue
            self.assertTrue(is_net(net))
            self.assertEqual(show_net(net), other)
            let_by += 1
        self.assertGreater(let_by, 0)


class Papers(Looked):
    def test_written_and_read(self):
        for text, paper in PAPERS.items():
            self.assertEqual(show_paper(paper), text)
            self.assertEqual(read_paper(NET, WAYS, WAGONS, text), paper)
            self.assertIs(type(show_paper(paper)), str)

    def test_each_drawn_paper(self):
        chance = random.Random(300)
        for _ in range(30):
            house = draw_house(chance)
            for paper in draw_papers(chance, house, 30, 420):
                text = show_paper(paper)
                self.assertEqual(read_paper(*house[:3], text), paper)

    def test_any_thing(self):
        self.no_paper(*ANY_THINGS)
        for text, paper in PAPERS.items():
            self.no_paper(paper, [text], (text,), text.split(" "), tuple(text.split(" ")))

    def test_blanks_and_line_ends(self):
        for text in PAPERS:
            self.no_paper(text + " ", " " + text, text + "\n", "\n" + text, text + " \n")
            for at, sign in enumerate(text):
                if sign == " ":
                    self.no_paper(text[:at] + " " + text[at:], text[:at] + "\n" + text[at + 1:], text[:at] + text[at + 1:],
                                  text[:at] + "," + text[at + 1:])

    def test_words_left_out_twice_or_more(self):
        for text in PAPERS:
            words = text.split(" ")
            for at in range(len(words)):
                self.no_paper(" ".join(words[:at] + words[at + 1:]), " ".join(words[:at + 1] + words[at:]))
            self.no_paper(text + " 1", text + " north", "1 " + text, "")

    def test_figures(self):
        for text in PAPERS:
            words = text.split(" ")
            for at, word in enumerate(words):
                if word.isdigit():
                    others = ["0" + word, "+" + word, "-" + word, word + ".0", "00" + word, "a", "-0", "1" * 11, "9" * 3000]
                    for other in others + ["\u0661", "1_0"]:
                        self.no_paper(" ".join(words[:at] + [other] + words[at + 1:]))

    def test_what_is_no_paper(self):
        # By its words it is a row, but no paper of this net, these ways and wagons.
        for text in ("waybill 0 1 1 0 0 0 0 0 20", "waybill 10000 1 1 0 0 0 0 0 20", "waybill 1 0 1 0 0 0 0 0 20",
                     "waybill 1 100 1 0 0 0 0 0 20", "waybill 1 1 0 0 0 0 0 0 20", "waybill 1 1 421 0 0 0 0 0 20",
                     "waybill 1 1 1 4 0 0 0 0 20", "waybill 1 1 1 0 1000000001 0 0 0 20",
                     "waybill 1 1 1 0 0 0 0 1000000001 20", "waybill 1 1 1 0 0 0 0 0 21",
                     "return 8 1 york 33 14 1 south laden whole", "return 8 1 selby 33 24 1 south laden whole",
                     "return 8 1 selby 33 14 0 south laden whole", "return 8 1 selby 33 14 1 east laden whole",
                     "toll 9 1 west 5 60 25", "toll 9 1 south 5 4 25", "claim 3 1 0 300", "answer 4 1 3 west",
                     "ruling 4 1 17 line west", "withdrawal 6 1 0"):
            self.no_paper(text)

    def test_other_words(self):
        for text in ("return 8 1 selby 33 14 1 south whole laden", "return 8 1 selby 33 14 1 south full whole",
                     "return 8 1 selby 33 14 1 south laden open", "ruling 5 1 3", "ruling 5 1 3 line",
                     "ruling 5 1 3 seals north", "ruling 5 1 3 none north", "ruling 5 1 3 north", "ruling 5 1 3 line 4",
                     "ruling 5 1 3 line north south", "letter 1 1 1", "Claim 3 1 7 300", "claim 3", "line north", "open",
                     "answer 4 1 3 5", "claim 3 1 7 north", "toll 9 1 5 5 60 25", "claim\n3 1 7 300"):
            self.no_paper(text)

    def test_names_like_the_words(self):
        net = (("line", "seals"), (("laden", "line"), ("whole", "seals")), (("none", ("line", "seals")),),
               (("laden", "none", "line", 1), ("none", "whole", "seals", 1)))
        house = (net, [("laden", "none", "whole")], [(1, "line")])
        for text, paper in (
            ("answer 4 1 3 line", answer(4, "line")), ("answer 4 1 3 seals", answer(4, "seals")),
            ("toll 9 1 line 5 60 25", toll(9, "line", 5, 60, 25)), ("ruling 5 1 3 line line", ruling(5, "line", "line")),
            ("ruling 5 1 3 line seals", ruling(5, "line", "seals")), ("ruling 5 1 3 seals", ruling(5, "seals")),
            ("return 8 1 none 33 14 1 line laden whole", ("return", 8, 1, "none", 33, 14, 1, "line", "laden", "whole")),
        ):
            self.assertEqual(fault(*house, paper), -1)
            self.assertEqual(show_paper(paper), text)
            self.assertEqual(read_paper(*house, text), paper)
        self.refused(read_paper, *house, "ruling 5 1 3 line")

    def test_of_this_house(self):
        text = "waybill 1 1 1 3 0 0 0 0 30"
        self.assertEqual(read_paper(NET, WAYS, WAGONS, text)[4], 3)
        self.refused(read_paper, NET, WAYS[:3], WAGONS, text)
        self.refused(read_paper, NET, WAYS, WAGONS[:1], text)
        self.refused(read_paper, NET, [], [], text)

    def test_every_sign(self):
        let_by = 0
        for text in PAPERS:
            for other in spoiled(text):
                try:
                    paper = read_paper(NET, WAYS, WAGONS, other)
                except NoText:
                    continue
                self.assertEqual(fault(NET, WAYS, WAGONS, paper), -1)
                self.assertEqual(show_paper(paper), other)
                let_by += 1
        self.assertGreater(let_by, 0)

    def test_kinds_of_what_is_read(self):
        paper = read_paper(NET, WAYS, WAGONS, "waybill 7 2 31 1 500 40 10 20 20")
        self.assertEqual([type(thing) for thing in paper], [str] + [int] * 6 + [tuple, int])
        self.assertIs(type(read_paper(NET, WAYS, WAGONS, "ruling 5 1 3 seals")[4]), tuple)


class HandedIn(unittest.TestCase):
    """Point 2: what is handed in stays."""

    def test_it_is_unchanged_behind_the_call(self):
        handed = (NET, list(WAYS), list(WAGONS))
        kept = copy.deepcopy(handed)
        for text in list(PAPERS) + ["claim 3"]:
            try:
                read_paper(*handed, text)
            except NoText:
                pass
        self.assertEqual(handed, kept)
        thing = ["line a", ["line b"]]
        self.assertRaises(NoText, read_net, thing)
        self.assertRaises(NoText, read_paper, *handed, thing)
        self.assertEqual(thing, ["line a", ["line b"]])


if __name__ == "__main__":
    unittest.main()
