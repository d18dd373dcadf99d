"""Point 25: what the desk refuses, and in which order."""

import unittest

from drawn import FAR, desk_rows, flip_of, refused, same, strange
from manyleast.desk import Desk
from manyleast.errors import Beyond, NoRow, NoSuch, NoText, TooMany

# Rows with the kinds of their words, on the desk that known_desk tells: make 1 has five numbers, make 2 two, and
# there are four makes. A kind's wrong words come with what each is refused with, if nothing else is wrong.

BOUNDS = (-4, 3)
ROWS = [[], [3, -4, 0, 2, 2], [1, 1], [2, 0]]

FORMS = [
    [("first", "row")],
    [("first", "row"), ("within", "3")],
    [("first", "row"), ("within", "3"), ("within", "-4"), ("within", "0")],
    [("first", "put"), ("make", "1"), ("place to put", "5"), ("within", "3")],
    [("first", "take"), ("make", "1"), ("place", "4")],
    [("first", "set"), ("make", "1"), ("place", "0"), ("within", "-4")],
    [("first", "cut"), ("make", "1"), ("start", "1"), ("end", "3")],
    [("first", "join"), ("make", "1"), ("make", "2")],
    [("first", "turn"), ("make", "1")],
    [("first", "flip"), ("make", "3")],
    [("first", "show"), ("make", "0")],
    [("first", "least"), ("gathering", "1:0:5"), ("k", "4")],
    [("first", "least"), ("gathering", "1:0:5+2:1:2+0:0:0"), ("k", "5")],
    [("first", "below"), ("gathering", "1:0:5"), ("number", "-99")],
    [("first", "between"), ("gathering", "1:0:5"), ("number", "-99"), ("number", "7")],
    [("first", "falls"), ("stretch", "1:0:5")],
    [("first", "up"), ("gathering", "1:0:5"), ("number", "7")],
    [("first", "down"), ("gathering", "1:0:5+1:0:5"), ("number", "7")],
    [("first", "most"), ("gathering", "1:0:5")],
    [("first", "often"), ("gathering", "1:0:5"), ("part", "1")],
    [("lead", "paper"), ("ask", "least"), ("gathering", "1:0:5"), ("k", "0")],
    [("lead", "paper"), ("ask", "below"), ("gathering", "1:0:5"), ("number", "-1")],
    [("lead", "paper"), ("ask", "most"), ("filled", "1:0:5")],
    [("lead", "paper"), ("ask", "often"), ("gathering", "1:0:5"), ("part", "2")],
    [("lead", "paper"), ("ask", "up"), ("gathering", "1:0:5"), ("number", "99")],
    [("lead", "shows"), ("ask", "least"), ("gathering", "1:0:5"), ("count", "9"), ("number", "-7"), ("paper", "5")],
    [("lead", "shows"), ("ask", "below"), ("gathering", "1:0:5"), ("number", "-9"), ("count", "0"), ("paper", "5")],
    [("lead", "shows"), ("ask", "most"), ("gathering", "1:0:5"), ("counted", "-7:0"), ("paper", "5(1,4)")],
    [("lead", "shows"), ("ask", "often"), ("gathering", "1:0:5"), ("part", "9"), ("list", "3:1,-4:1"), ("paper", "0")],
    [("lead", "shows"), ("ask", "often"), ("gathering", "1:0:5"), ("part", "1"), ("list", "-"), ("paper", "5")],
    [("lead", "shows"), ("ask", "up"), ("gathering", "1:0:5"), ("number", "-9"), ("next", "-4:1"), ("paper", "5(1,4)")],
    [("lead", "shows"), ("ask", "up"), ("gathering", "1:0:5"), ("number", "-9"), ("next", "-"), ("paper", "5(1,4)")],
]

LONG = "1" * 51
NO_NUMBER = [
    "", "x", "-", "+", "--", "01", "-01", "-0", "00", "+1", "--1", "1-", "1.0", "1_0", "1,0", "0x1", "1e3", "1:2",
    "1:0:5",
    "1+1", "(1)", "5(1,4)", "1\n", "\t1", "one", "None", "\u0661", "\u00b2", LONG, "-" + LONG, "1 ", " 1", "~", "row",
]
NO_COUNT = NO_NUMBER + ["-1", "-5", "-" + "9" * 50]
NO_STRETCH = NO_NUMBER[:10] + [
    "0", "1", "1:0", "1:0:5:0", ":0:5", "1::5", "1:0:", "::", ":", "1:0:5:", ":1:0:5", "-1:0:0", "1:-1:5", "1:0:-5",
    "01:0:5", "1:00:5", "1:0:05", "x:0:5", "1:x:5", "1:0:x", "1;0;5", "1,0,5", "(1:0:5)", "1:0:5(", "-0:0:0", "1:+0:5",
    "1:0:5-", f"{LONG}:0:0", f"1:{LONG}:5", f"1:0:{LONG}", "1:0 :5", "1:0:5\n", "1.0.5", "1:0:5,1:0:5",
]
NO_GATHERING = NO_STRETCH + [
    "1:0:5+", "+1:0:5", "1:0:5++1:0:5", "+", "++", "1:0:5+x", "x+1:0:5", "1:0:5+1:0", "1:0+1:0:5", "1:0:5+-1:0:5",
    "1:0:5+1:0:5+", "1:0:5+01:0:5", "1:0:5-1:0:5", "+".join(["1:0:5"] * 9), "+".join(["0:0:0"] * 20), "1:0:5+1 :0:5",
    "1:0:5+1:0:" + LONG,
]
NO_COUNTED = [
    "", "5", "-5", "5:", ":5", ":", "5:-1", "5:1:1", "5::1", "x:1", "5:x", "05:1", "5:01", "-0:1", "5:-0", "+5:1",
    "5:+1",
    "5;1", "5:1;", "5:1,", ",5:1", f"{LONG}:1", f"5:{LONG}", "--5:1", "-:1", "5:-", "None", "5:1\n", "(5:1)", "5:1 ",
    "--",
    "-,", ",", "5,1", "5:1+6:1", "5:1,,6:1", "5:1,-", "-,5:1", "5:1,6", "5:1,6:-1", "5:1,x:1", "none", "[]",
    "5:1:1,6:1",
]
NO_PAPER = [
    "-", "x", "-1", "01", "+5", "5(", "5)", "5()", "5(1)", "5(1,4", "5(1,4))", "5(1,2,2)", "(1,4)", "5(1,4)x",
    "5(-1,6)",
    "5(1,04)", "5(1;4)", "5,6", "5:1", "5(1,4)(1,4)", LONG, f"5(1,{LONG})", "5\n", "5(,4)", "5(1,)", "yes", "~",
    "1(" * 101 + "0" + ",0)" * 101, "1(0," * 101 + "0" + ")" * 101, "\u0665",
]
NO_PLACE_IN_MAKES = ["4", "5", "99", "9" * 50]
NO_SPOT = ["4:0:0", "99:0:0", "9" * 50 + ":0:0", "1:0:6", "1:6:6", "1:3:2", "1:5:4", "2:0:3", "0:0:1", "0:1:1"]
NO_SPOTS = [spot + "+1:0:5" for spot in NO_SPOT] + ["1:0:5+" + spot for spot in NO_SPOT]

WRONG = {
    "first": {NoRow: ["", "x", "Row", "rows", "row:", "PUT", "makes", "rank", "sum", "0", "least\n", "paper", "shows"]},
    "lead": {NoRow: ["", "x", "Paper", "papers", "show", "row", "most", "0"]},
    "ask": {NoRow: ["", "x", "between", "down", "falls", "show", "row", "put", "turn", "paper", "shows", "Least"]},
    "number": {NoRow: NO_NUMBER},
    "within": {NoRow: NO_NUMBER, Beyond: ["-5", "4", "99", "9" * 50, "-" + "9" * 50]},
    "make": {NoRow: NO_COUNT, NoSuch: NO_PLACE_IN_MAKES},
    "place": {NoRow: NO_COUNT, NoSuch: ["5", "6", "99", "9" * 50]},
    "place to put": {NoRow: NO_COUNT, NoSuch: ["6", "99", "9" * 50]},
    "start": {NoRow: NO_COUNT, NoSuch: ["4", "6", "99"]},
    "end": {NoRow: NO_COUNT, NoSuch: ["0", "6", "99"]},
    "count": {NoRow: NO_COUNT},
    "k": {NoRow: NO_COUNT, "k": ["8", "99", "9" * 50]},
    "part": {NoRow: NO_COUNT + ["0"]},
    "stretch": {NoRow: NO_GATHERING + ["1:0:5+2:0:2"], NoSuch: NO_SPOT},
    "gathering": {NoRow: NO_GATHERING, NoSuch: NO_SPOT + NO_SPOTS},
    "counted": {NoRow: NO_COUNTED + ["-", "5:1,6:1"]},
    "list": {NoRow: NO_COUNTED},
    "next": {NoRow: NO_COUNTED + ["5:1,6:1"]},
    "paper": {NoRow: ["", " ", "5 ", " 5", "5(1, 4)"], NoText: NO_PAPER},
}
WRONG["filled"] = {**WRONG["gathering"], "k": ["0:0:0", "1:2:2", "1:5:5+0:0:0"]}

# The order in which a row is refused; a k that there isn't, and what comes most of nothing, are NoSuch as well, but
# behind the others.
ORDER = [NoRow, NoText, NoSuch, Beyond, "k"]


def known_desk():
    desk = Desk(BOUNDS)
    for row in ROWS[1:]:
        desk.say("row " + " ".join(str(number) for number in row))
    return desk


def row_with(form, changed):
    """The row of the form, with other words at some places."""
    return " ".join(changed.get(place, word) for place, (kind, word) in enumerate(form))


def wrong_at(form, place):
    """The wrong words of a place, as (what it is refused with, word)."""
    return [(kind, word) for kind, words in WRONG[form[place][0]].items() for word in words]


class Refused(unittest.TestCase):
    def setUp(self):
        self.desk = known_desk()
        self.before = desk_rows(self.desk, 4)

    def still(self, kind, row):
        """The refusal, behind which the desk answers as before."""
        told = refused(self, NoSuch if kind == "k" else kind, self.desk.say, row)
        self.assertEqual(desk_rows(self.desk, 4), self.before, row)
        refused(self, NoSuch, self.desk.say, "show 4")
        return told

    def test_the_rows_themselves_are_answered(self):
        for form in FORMS:
            self.assertIsInstance(known_desk().say(row_with(form, {})), str, form)

    def test_what_is_no_text(self):
        for thing in strange() + [0, 1, ["row"], ("show", 0), b"show 0"]:
            self.still(NoRow, thing)

    def test_a_word_that_is_wrong_at_each_place(self):
        for form in FORMS:
            for place in range(len(form)):
                for kind, word in wrong_at(form, place):
                    told = self.still(kind, row_with(form, {place: word}))
                    if kind is Beyond:
                        self.assertTrue(same(told.number, int(word)))

    def test_two_words_that_are_wrong(self):
        for form in FORMS:
            for place in range(len(form)):
                for other in range(place):
                    for kind in WRONG[form[place][0]]:
                        for beside in WRONG[form[other][0]]:
                            word = WRONG[form[place][0]][kind][-1]
                            besides = WRONG[form[other][0]][beside][-1]
                            first = min(kind, beside, key=ORDER.index)
                            self.still(first, row_with(form, {place: word, other: besides}))

    def test_too_few_words(self):
        for form in FORMS:
            words = [word for kind, word in form]
            for place in range(1 if form[0][0] == "lead" else 0, len(form)):
                if words[0] != "row" or place == 0:
                    self.still(NoRow, " ".join(words[:place] + words[place + 1:]))
                    self.still(NoRow, " ".join(words[:place]))
        for row in ("", "paper", "shows", "paper least", "shows least 1:0:5", "shows most 1:0:5 3:1", "put 1 0",
        "most"):
            self.still(NoRow, row)

    def test_too_many_words(self):
        for form in FORMS:
            words = [word for kind, word in form]
            for place in range(len(form) + 1):
                for more in ("0", "1:0:5", "5", "x"):
                    if words[0] != "row" or place == 0 or more in ("x", "1:0:5"):
                        self.still(NoRow, " ".join(words[:place] + [more] + words[place:]))

    def test_words_without_signs(self):
        for form in FORMS:
            words = [word for kind, word in form]
            for place in range(len(form) + 1):
                self.still(NoRow, " ".join(words[:place] + [""] + words[place:]))
                self.still(NoRow, " ".join(words[:place] + ["", ""] + words[place:]))
        for row in (" ", "  ", "row ", " row", "row  3", "row 3 ", " show 0", "show 0 ", "show  0", "show 0\n",
        "show\t0"):
            self.still(NoRow, row)

    def test_a_wrong_word_comes_ahead_of_a_papers_text(self):
        for row, kind in (
            ("shows least 99:0:0 0 x 5(", NoRow), ("shows least 99:0:0 0 5 5(", NoText),
            ("shows least 99:0:0 0 5 5", NoSuch),
            ("shows most 1:0:5 - 5(", NoRow), ("shows most 1:9:9 3:1 5(", NoText), ("shows most 1:9:9 3:1 5", NoSuch),
            ("shows often 9:0:0 0 - x", NoRow), ("shows often 9:0:0 1 - x", NoText),
            ("shows often 9:0:0 1 - 0", NoSuch),
            ("shows up 9:0:0 1 - x y", NoRow), ("shows up 9:0:0 1 x", NoRow), ("shows down 9:0:0 1 - x", NoRow),
        ):
            self.still(kind, row)

    def test_the_rows_of_makes_in_their_order(self):
        for row, kind in (
            ("put 4 9 99", NoSuch), ("put 1 6 99", NoSuch), ("put 1 5 99", Beyond), ("put 4 9 x", NoRow),
            ("put 1 5 -5", Beyond),
            ("set 4 9 99", NoSuch), ("set 1 5 99", NoSuch), ("set 1 4 99", Beyond), ("take 1 5", NoSuch),
            ("take 4 0", NoSuch),
            ("cut 4 0 0", NoSuch), ("cut 1 0 6", NoSuch), ("cut 1 2 1", NoSuch), ("join 4 0", NoSuch),
            ("join 0 4", NoSuch),
            ("turn 4", NoSuch), ("flip 4", NoSuch), ("show 4", NoSuch), ("row 0 4 -5", Beyond), ("row 0 4 x", NoRow),
        ):
            self.still(kind, row)
        self.assertEqual(self.still(Beyond, "row 0 4 -5").number, 4)
        self.assertEqual(self.desk.say("row 1"), "4")

    def test_a_k_that_there_is_not(self):
        for row in ("least 1:0:5 5", "least 0:0:0 0", "paper least 1:0:5 5", "paper least 0:0:0 0", "paper most 0:0:0"):
            self.still(NoSuch, row)
        self.assertEqual(self.desk.say("shows least 1:0:5 5 2 5"), "no")
        self.assertEqual(self.desk.say("shows most 0:0:0 2:0 0"), "no")

    def test_numbers_of_fifty_figures(self):
        for row, answer in ((f"below 1:0:5 {FAR}", "5"), (f"below 1:0:5 -{FAR}", "0"), (f"up 1:0:5 -{FAR}", "-4:1")):
            self.assertEqual(self.desk.say(row), answer)
        self.assertEqual(self.desk.say(f"often 1:0:5 {FAR}"), "-4:1,0:1,2:2,3:1")
        self.assertEqual(self.desk.say(f"shows below 1:0:5 {FAR} {FAR} {FAR}({FAR},{FAR})"), "no")
        for row in ("below 1:0:5 {}", "below 1:0:5 -{}", "often 1:0:5 {}", "show {}", "least 1:0:5 {}", "most {}:0:0"):
            self.still(NoRow, row.format(LONG))


class AThousand(unittest.TestCase):
    def test_too_many_behind_the_others(self):
        desk = Desk((0, 3))
        desk.say("row " + " ".join(["5"] * 250))
        self.assertEqual([desk.say(row) for row in ("join 1 1", "join 2 2", "take 3 0", "row 7")], list("2345"))
        rows = [[], [5] * 250, [5] * 500, [5] * 1000, [5] * 999, [7]]
        before = [" ".join(str(number) for number in row) for row in rows]
        for row, kind in (
            ("put 3 0 7", TooMany), ("put 3 1000 0", TooMany), ("put 3 0 8", Beyond), ("put 3 1001 0", NoSuch),
            ("put 3 1001 8", NoSuch), ("put 6 0 8", NoSuch), ("put 3 0 x", NoRow), ("join 3 5", TooMany),
            ("join 5 3", TooMany),
            ("join 3 3", TooMany), ("join 3 6", NoSuch), ("join 6 3", NoSuch), ("join 3 -1", NoRow),
            ("join 3 1 1", NoRow),
        ):
            refused(self, kind, desk.say, row)
            self.assertEqual(desk_rows(desk, 6), before, row)
            refused(self, NoSuch, desk.say, "show 6")
        self.assertEqual([desk.say("put 4 999 7"), desk.say("join 5 4"), desk.say("join 3 0")], ["6", "7", "8"])
        self.assertEqual(desk.say("show 6"), " ".join(["5"] * 999 + ["7"]))
        self.assertEqual(desk.say("set 6 0 1"), "9")
        self.assertEqual(desk.say("turn 9"), "10")
        self.assertEqual(desk.say("flip 10"), "11")
        row = [7] + [5] * 998 + [1]
        self.assertEqual(desk.say("show 11"), " ".join(str(number) for number in flip_of((0, 3), row)))
        self.assertEqual(desk.say("cut 11 0 1000"), "12")


if __name__ == "__main__":
    unittest.main()
