"""Point 24: whole numbers, rows and papers as texts."""

import random
import re
import unittest

from drawn import FAR, Sour, drawn_bounds, drawn_cases, drawn_row, drawn_splits, paper_text, plain_paper, refused, same
from drawn import strange
from manyleast.errors import NoText
from manyleast.texts import read_number, read_paper, read_row, show_number, show_paper, show_row

# No whole numbers, each for its own fault.
NO_NUMBERS = [
    "", "-", "+", "--", "-0", "+0", "+1", "00", "01", "-01", "-00", "007", "0000", "--1", "-+1", "1-", "1-1", "1+1",
    " 1", "1 ", " ", "  ", "- 1", "1 2", "1\n", "\n1", "1\t", "\t", "1\r", "1_0", "1,0", "1.0", "1.", ".1", "1e3",
    "0x1",
    "1:2", "(1)", "1()", "5(2,3)", "x", "1x", "x1", "one", "None", "True", "~", "1~", "!", "/", ":", "0/", "0:", "1;",
    "\u0661", "1\u0661", "\u00b2", "\uff11", "\u22121", "\u00a01", "1\u00a0", "1\x00", "\x001", "\u0967\u0968",
    "1" * 51, "-" + "1" * 51, "9" * 51, "1" + "0" * 50, "-1" + "0" * 50, "0" * 50, "0" + "1" * 49, "1" * 4000,
    "-" + "0" * 50, "- ", "-x", "-(",
]

# What is no text.
NO_TEXTS = [thing for thing in strange() if not isinstance(thing, str)] + [
    0, 1, -1, 12, FAR, (), (1, 2), ("1",), ["1"], [1, 2], [], ("all", 1), b"1", Sour(),
    ("split", 2, ("all", 1), ("all", 1)),
]


def drawn_numbers(dice):
    """Numbers of one figure to fifty, either way, both ends of each many of figures."""
    told = [0]
    for figures in range(1, 51):
        least = 10 ** (figures - 1)
        told += [least, 10 * least - 1, dice.randint(least, 10 * least - 1)]
    return told + [-number for number in told]


def drawn_paper(dice, depth):
    """A paper of at most so many splits above one another, with any manys from 0 on."""
    many = dice.choice((0, 1, dice.randint(0, 20), dice.randint(0, FAR), FAR))
    if depth == 0 or dice.random() < 0.3:
        return ("all", many)
    return ("split", many, drawn_paper(dice, depth - 1), drawn_paper(dice, depth - 1))


def deep_paper(dice, depth):
    """A paper with just so many splits above one another."""
    paper = ("all", dice.randint(0, 9))
    for level in range(depth):
        halves = [paper, ("all", dice.randint(0, 9))]
        dice.shuffle(halves)
        paper = ("split", dice.randint(0, 9), halves[0], halves[1])
    return paper


def deep_text(depth, side):
    """A text with so many brackets in one another, in the lower papers, the upper ones, or both in turn."""
    text = "0"
    for level in range(depth):
        lower = side == "lower" or (side == "both" and level % 2 == 0)
        text = f"1({text},0)" if lower else f"1(0,{text})"
    return text


def is_written(text):
    """Whether the text is that of a paper with few brackets: manys are folded to one sign, then splits to another."""
    folded = re.sub(r"(?<![0-9])(0|[1-9][0-9]{0,49})(?![0-9])", "M", text)
    while re.search(r"M\([MS],[MS]\)", folded):
        folded = re.sub(r"M\([MS],[MS]\)", "S", folded)
    return folded in ("M", "S")


class Numbers(unittest.TestCase):
    def test_shown_and_read_again(self):
        for number in drawn_numbers(random.Random(180)):
            text = show_number(number)
            self.assertTrue(same(text, "%d" % number))
            self.assertTrue(same(read_number(text), number))

    def test_written_out(self):
        for number, text in ((0, "0"), (7, "7"), (-7, "-7"), (10, "10"), (-10, "-10"), (FAR, "9" * 50)):
            self.assertTrue(same(show_number(number), text))
            self.assertTrue(same(read_number(text), number))
        self.assertTrue(same(read_number("-" + "9" * 50), -FAR))

    def test_no_numbers(self):
        for text in NO_NUMBERS:
            refused(self, NoText, read_number, text)

    def test_no_number_of_one_sign_or_two_but_those_of_figures(self):
        signs = [chr(code) for code in range(32, 127)]
        right = {str(number) for number in range(-9, 100)}
        for text in signs + [one + other for one in signs for other in signs]:
            if text in right:
                self.assertEqual(str(read_number(text)), text)
            else:
                refused(self, NoText, read_number, text)

    def test_no_texts(self):
        for thing in NO_TEXTS:
            refused(self, NoText, read_number, thing)


class Rows(unittest.TestCase):
    def test_shown_and_read_again(self):
        dice = random.Random(181)
        for turn in range(200):
            row = drawn_row(dice, drawn_bounds(dice))
            text = show_row(row)
            self.assertTrue(same(text, " ".join("%d" % number for number in row)))
            self.assertTrue(same(read_row(text), row))
        numbers = drawn_numbers(dice)
        self.assertTrue(same(read_row(show_row(numbers)), numbers))

    def test_the_empty_row(self):
        self.assertTrue(same(show_row([]), ""))
        self.assertTrue(same(read_row(""), []))

    def test_written_out(self):
        self.assertTrue(same(show_row([3, -1, 0, 3]), "3 -1 0 3"))
        self.assertTrue(same(read_row("3 -1 0 3"), [3, -1, 0, 3]))
        self.assertTrue(same(read_row("5"), [5]))

    def test_many_numbers(self):
        row = [5] * 1998
        self.assertTrue(same(read_row(show_row(row)), row))

    def test_a_word_that_is_no_number(self):
        for text in NO_NUMBERS:
            if text not in ("", "1 2"):
                refused(self, NoText, read_row, text)
                refused(self, NoText, read_row, f"{text} 5")
                refused(self, NoText, read_row, f"5 {text}")
                refused(self, NoText, read_row, f"5 {text} 6")

    def test_blanks(self):
        for text in (" ", "  ", " 1", "1 ", " 1 2", "1 2 ", "1  2", "1   2", "1 2  3", "  1", "1  ", "1\t2", "1\n2"):
            refused(self, NoText, read_row, text)

    def test_no_texts(self):
        for thing in NO_TEXTS:
            refused(self, NoText, read_row, thing)

    def test_what_is_handed_in_and_told(self):
        row = [1, 2]
        show_row(row)
        self.assertEqual(row, [1, 2])
        told = read_row("1 2")
        told.append(3)
        self.assertEqual(read_row("1 2"), [1, 2])


class Papers(unittest.TestCase):
    def check(self, paper):
        text = show_paper(paper)
        self.assertTrue(same(text, paper_text(paper)))
        self.assertTrue(same(read_paper(text), paper))

    def test_shown_and_read_again(self):
        dice = random.Random(182)
        for turn in range(300):
            self.check(drawn_paper(dice, dice.randint(0, 6)))

    def test_papers_of_gatherings(self):
        for dice, bounds, rows, spots, gathering, things in drawn_cases(183, 80):
            self.check(plain_paper(bounds, things, drawn_splits(dice, bounds, [thing[0] for thing in things][:5])))

    def test_a_hundred_brackets_deep(self):
        dice = random.Random(184)
        for depth in (1, 2, 40, 41, 99, 100):
            for turn in range(10):
                self.check(deep_paper(dice, depth))
            for side in ("lower", "upper", "both"):
                self.assertEqual(show_paper(read_paper(deep_text(depth, side))), deep_text(depth, side))

    def test_more_than_a_hundred_brackets_deep(self):
        for depth in (101, 102, 150, 900):
            for side in ("lower", "upper", "both"):
                refused(self, NoText, read_paper, deep_text(depth, side))
        refused(self, NoText, read_paper, "1(" * 101)
        refused(self, NoText, read_paper, "1(" * 2000)
        refused(self, NoText, read_paper, "(" * 4000)

    def test_many_brackets_beside_one_another(self):
        text = "1(1,1)"
        for level in range(11):
            text = f"2({text},{text})"
        self.assertEqual(show_paper(read_paper(text)), text)

    def test_written_out(self):
        self.assertTrue(same(read_paper("5"), ("all", 5)))
        self.assertTrue(same(read_paper("0"), ("all", 0)))
        paper = ("split", 5, ("all", 2), ("split", 3, ("all", 1), ("all", 2)))
        self.assertTrue(same(show_paper(paper), "5(2,3(1,2))"))
        self.assertTrue(same(read_paper("5(2,3(1,2))"), paper))
        # Whether its counts are right is not asked of a text.
        self.assertTrue(same(read_paper("1(7,0)"), ("split", 1, ("all", 7), ("all", 0))))

    def test_fifty_figures(self):
        self.check(("split", FAR, ("all", FAR), ("all", FAR)))
        for text in ("1" * 51, "1" * 51 + "(0,1)", "1(%s,1)" % ("1" * 51), "1(1,%s)" % ("1" * 51), "1" * 4000):
            refused(self, NoText, read_paper, text)

    def test_no_papers(self):
        for text in (
            "", " ", "-", "-1", "+1", "x", "01", "00", "(", ")", ",", "()", "(,)", "(1,2)", "1,2", "1(", "1()", "1)",
            "1(1", "1(1,", "1(1,2", "1(1)", "1(,)", "1(1,)", "1(,1)", "1(1,2,3)", "1(1,2))", "1(1,2)(1,2)", "1((1,2))",
            "1(1,2)3", "1(1,2) ", " 1(1,2)", "1 (1,2)", "1( 1,2)", "1(1, 2)", "1(1,2 )", "1(1 2)", "1(1;2)", "1[1,2]",
            "-1(1,2)", "1(-1,2)", "1(1,-2)", "1(1,-0)", "-0", "01(1,2)", "1(01,2)", "1(1,02)", "1(1,2(3,4)",
            "1(1,2(3),4)",
            "1(1(1,2)", "1(1,2)x", "1(1,2),3", "1(x,2)", "1(1,x)", "1(1,2)\n", "1\n", "1(1,2", "1 2", "5(2,3(1,2)))",
            "((1,2),3)", "1(1,(2,3))", "1(1(,2)", "1.5(1,2)", "\u0661", "1(\u0661,0)", "\u00b2", "1\x00", "1{1,2}", "~",
        ):
            refused(self, NoText, read_paper, text)

    def test_texts_with_one_sign_changed(self):
        dice = random.Random(185)
        for turn in range(400):
            text = paper_text(drawn_paper(dice, 3))
            place = dice.randrange(len(text) + 1)
            sign = dice.choice("0123456789(),- x")
            changed = dice.choice((
                text[:place] + sign + text[place:],
                text[:place] + text[place + 1:],
                text[:place] + sign + text[place + 1:],
            ))
            try:
                told = read_paper(changed)
            except NoText:
                self.assertFalse(is_written(changed), changed)
            else:
                self.assertTrue(is_written(changed), changed)
                self.assertEqual(paper_text(told), changed)

    def test_no_texts(self):
        for thing in NO_TEXTS:
            refused(self, NoText, read_paper, thing)


if __name__ == "__main__":
    unittest.main()
