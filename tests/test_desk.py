"""Point 25: the desk, its rows and answers."""

import random
import unittest

from drawn import counted_text, drawn_bounds, drawn_doing, drawn_doings, drawn_splits, drawn_spots, gathered, list_text
from drawn import paper_text, plain_down, plain_most, plain_often, plain_pairs, plain_paper, plain_up, refused, same
from drawn import FAR, desk_rows, some_numbers, some_of, some_parts, splits_of, spots_text, things_of, top
from manyleast.desk import Desk
from manyleast.errors import NoSuch
from manyleast.papers import shows_below, shows_least, shows_most, shows_often, shows_up
from manyleast.tellers import paper_below, paper_least, paper_most, paper_often, paper_up


def drawn_desks(seed, many, doings=7):
    """The dice, bounds, a desk of so many doings, and its plain rows."""
    dice = random.Random(seed)
    for turn in range(many):
        bounds = drawn_bounds(dice)
        told, rows = drawn_doings(dice, bounds, doings)
        desk = Desk(bounds)
        for doing in told:
            desk.say(doing.text())
        yield dice, bounds, desk, rows


def drawn_asked(seed, many):
    """A desk as above with a gathering of it: its word, its trees, and its things in order."""
    for dice, bounds, desk, rows in drawn_desks(seed, many):
        spots = drawn_spots(dice, rows)
        yield dice, bounds, desk, spots_text(spots), gathered(bounds, rows, spots), things_of(rows, spots)


class Makes(unittest.TestCase):
    def test_drawn_doings_on_any_make(self):
        for seed in range(60):
            dice = random.Random(19000 + seed)
            bounds = drawn_bounds(dice)
            desk, rows = Desk(bounds), [[]]
            for turn in range(dice.choice((6, 14, 20))):
                doing = drawn_doing(dice, bounds, rows)
                self.assertTrue(same(desk.say(doing.text()), str(len(rows))), doing.text())
                rows.append(doing.row)
                right = [" ".join(str(number) for number in row) for row in rows]
                self.assertTrue(same(desk_rows(desk, len(rows)), right), doing.text())

    def test_make_0_and_the_empty_row(self):
        for bounds in ((0, 0), (-9, 40), (10 ** 40 - 1, 3)):
            desk = Desk(bounds)
            self.assertTrue(same(desk.say("show 0"), ""))
            refused(self, NoSuch, desk.say, "show 1")
            self.assertTrue(same(desk.say("row"), "1"))
            self.assertTrue(same(desk.say("show 1"), ""))

    def test_written_out(self):
        desk = Desk((-4, 3))
        told = [
            ("row 3 -4 0", "1"), ("put 1 3 2", "2"), ("take 1 0", "3"), ("set 2 1 -1", "4"), ("cut 2 1 3", "5"),
            ("turn 1", "6"), ("flip 1", "7"), ("join 3 1", "8"), ("join 1 1", "9"), ("show 0", ""),
            ("show 1", "3 -4 0"), ("show 2", "3 -4 0 2"), ("show 3", "-4 0"), ("show 4", "3 -1 0 2"),
            ("show 5", "-4 0"),
            ("show 6", "0 -4 3"), ("show 7", "-4 3 -1"), ("show 8", "-4 0 3 -4 0"), ("show 9", "3 -4 0 3 -4 0"),
        ]
        for row, answer in told:
            self.assertTrue(same(desk.say(row), answer), row)

    def test_two_desks_keep_apart(self):
        one, other = Desk((0, 3)), Desk((0, 3))
        self.assertEqual((one.say("row 1"), one.say("row 2"), other.say("row 3")), ("1", "2", "1"))
        self.assertEqual((one.say("show 1"), other.say("show 1")), ("1", "3"))
        refused(self, NoSuch, other.say, "show 2")


class Asks(unittest.TestCase):
    def test_least(self):
        for dice, bounds, desk, word, gathering, things in drawn_asked(190, 60):
            for k, thing in some_of(dice, things, 8):
                self.assertTrue(same(desk.say(f"least {word} {k}"), "%d %d %d" % thing))
            for k in (len(things), len(things) + 1, FAR):
                refused(self, NoSuch, desk.say, f"least {word} {k}")

    def test_below_and_between(self):
        for dice, bounds, desk, word, gathering, things in drawn_asked(191, 60):
            numbers = some_numbers(dice, bounds, things)
            for number in numbers:
                many = sum(thing[0] < number for thing in things)
                self.assertTrue(same(desk.say(f"below {word} {number}"), str(many)))
                high = dice.choice(numbers)
                many = sum(number <= thing[0] <= high for thing in things)
                self.assertTrue(same(desk.say(f"between {word} {number} {high}"), str(many)))

    def test_up_and_down(self):
        for dice, bounds, desk, word, gathering, things in drawn_asked(192, 60):
            for number in some_numbers(dice, bounds, things):
                self.assertTrue(same(desk.say(f"up {word} {number}"), counted_text(plain_up(things, number))))
                self.assertTrue(same(desk.say(f"down {word} {number}"), counted_text(plain_down(things, number))))

    def test_most_and_often(self):
        for dice, bounds, desk, word, gathering, things in drawn_asked(193, 60):
            self.assertTrue(same(desk.say(f"most {word}"), counted_text(plain_most(things))))
            for part in some_parts(dice, things):
                self.assertTrue(same(desk.say(f"often {word} {part}"), list_text(plain_often(things, part))))

    def test_falls(self):
        for dice, bounds, desk, rows in drawn_desks(194, 60):
            for make, row in enumerate(rows):
                for start, end in ((0, len(row)), tuple(sorted(dice.choices(range(len(row) + 1), k=2)))):
                    told = desk.say(f"falls {make}:{start}:{end}")
                    self.assertTrue(same(told, str(plain_pairs(row[start:end])[0])))

    def test_written_out(self):
        desk = Desk((-4, 3))
        desk.say("row 3 -4 0 3")
        desk.say("row 0 -4")
        told = [
            ("least 1:0:4 0", "-4 0 1"), ("least 1:0:4+2:0:2 1", "-4 1 1"), ("least 1:0:4+2:0:2+1:3:4 6", "3 2 3"),
            ("below 1:0:4 3", "2"), ("below 1:0:4 -99", "0"), ("between 1:0:4 0 3", "3"), ("between 1:0:4 3 0", "0"),
            ("falls 1:0:4", "2"), ("falls 1:0:1", "0"), ("up 1:0:4 0", "3:2"), ("up 1:0:4 3", "-"),
            ("down 1:0:4 3", "0:1"), ("down 1:0:4 0", "-4:1"), ("down 1:0:4 -4", "-"), ("most 1:0:4", "3:2"),
            ("most 0:0:0", "-"), ("most 1:0:3+2:0:2", "-4:2"), ("often 1:0:4 2", "-"), ("often 1:0:4 3", "3:2"),
            ("often 1:0:4+2:0:2 4", "-4:2,0:2,3:2"), ("often 0:0:0 1", "-"),
            ("paper below 1:0:4 3", "4(1,3(1,2(0,2)))"),
            ("paper below 1:0:4 9", "4"), ("paper least 1:0:4 0", "4(1(1(1,0),0),3)"), ("paper up 1:0:4 3", "4"),
            ("paper most 1:0:4", "4(1,3(1,2(0,2)))"), ("paper often 1:0:4 2", "4(1,3(1,2))"),
            ("shows below 1:0:4 3 2 4(1,3(1,2(0,2)))", "yes"), ("shows below 1:0:4 3 2 4(1,3)", "no"),
            ("shows least 1:0:4 0 -4 4(1(1(1,0),0),3)", "yes"), ("shows least 1:0:4 1 -4 4(1(1(1,0),0),3)", "no"),
            ("shows up 1:0:4 2 - 4", "no"), ("shows up 1:0:4 3 - 4", "yes"),
            ("shows up 1:0:4 0 3:2 4(1,3(1(1,0),2(0,2)))", "yes"),
            ("shows most 1:0:4 3:2 4(1,3(1,2(0,2)))", "yes"), ("shows most 1:0:4 3:2 4(1,3(1,2(0,1)))", "no"),
            ("shows often 1:0:4 2 - 4(1,3(1,2))", "yes"), ("shows often 1:0:4 2 3:2 4(1,3(1,2))", "no"),
            ("shows often 1:0:4 3 3:2 4(1,3(1,2(0,2)))", "yes"),
        ]
        for row, answer in told:
            self.assertTrue(same(desk.say(row), answer), (row, desk.say(row)))

    def test_one_to_eight_stretches(self):
        desk = Desk((0, 2))
        desk.say("row 3 1")
        for many in range(1, 9):
            word = "+".join(["1:0:2"] * many)
            self.assertEqual(desk.say(f"below {word} 9"), str(2 * many))
            self.assertEqual(desk.say(f"least {word} {2 * many - 1}"), f"3 {many - 1} 0")


class Papers(unittest.TestCase):
    def test_the_told_paper(self):
        for dice, bounds, desk, word, gathering, things in drawn_asked(195, 40):
            numbers = some_numbers(dice, bounds, things)
            for number in numbers:
                told = paper_text(paper_below(bounds, gathering, number))
                self.assertTrue(same(desk.say(f"paper below {word} {number}"), told))
                told = paper_text(paper_up(bounds, gathering, number))
                self.assertTrue(same(desk.say(f"paper up {word} {number}"), told))
            for k, thing in some_of(dice, things, 5):
                told = paper_text(paper_least(bounds, gathering, k))
                self.assertTrue(same(desk.say(f"paper least {word} {k}"), told))
            for part in some_parts(dice, things)[:6]:
                told = paper_text(paper_often(bounds, gathering, part))
                self.assertTrue(same(desk.say(f"paper often {word} {part}"), told))
            if things:
                self.assertTrue(same(desk.say(f"paper most {word}"), paper_text(paper_most(bounds, gathering))))
            else:
                refused(self, NoSuch, desk.say, f"paper most {word}")
            refused(self, NoSuch, desk.say, f"paper least {word} {len(things)}")

    def some_papers(self, dice, bounds, things, told):
        """The told paper, it split further, recounted, closed, another one, one of fewer things, one in another."""
        splits = splits_of(told)
        worths = [thing[0] for thing in things] or [bounds[0]]
        further = splits | drawn_splits(dice, bounds, [dice.choice(worths)], 2)
        papers = [told, plain_paper(bounds, things, further), recounted(dice, told), ("all", len(things))]
        papers += [plain_paper(bounds, things, drawn_splits(dice, bounds, [dice.choice(worths)]))]
        return papers + [plain_paper(bounds, things[1:], splits), ("split", len(things), told, ("all", 0))]

    def check(self, desk, asked, told_text, paper, right):
        row = f"shows {asked} {told_text} {paper_text(paper)}"
        self.assertTrue(same(desk.say(row), "yes" if right else "no"), row)

    def test_shows_below_and_up(self):
        for dice, bounds, desk, word, gathering, things in drawn_asked(196, 25):
            for number in some_numbers(dice, bounds, things):
                many = sum(thing[0] < number for thing in things)
                for paper in self.some_papers(dice, bounds, things, paper_below(bounds, gathering, number)):
                    for told in (many, many + 1, max(many - 1, 0), len(things), FAR):
                        right = shows_below(bounds, gathering, paper, number, told)
                        self.check(desk, f"below {word} {number}", told, paper, right)
                found = plain_up(things, number)
                above = min(number + 1, FAR)
                others = [None, (number, 1), (above, 0), (above, 1), dice.choice(things or [(0, 1)])[:2]]
                if found is not None:
                    others += [(found[0], found[1] + 1), (found[0] + 1, found[1]), (found[0], found[1] - 1)]
                for paper in self.some_papers(dice, bounds, things, paper_up(bounds, gathering, number)):
                    for told in [found] + others:
                        right = shows_up(bounds, gathering, paper, number, told)
                        self.check(desk, f"up {word} {number}", counted_text(told), paper, right)

    def test_shows_least(self):
        for dice, bounds, desk, word, gathering, things in drawn_asked(197, 40):
            for k, thing in some_of(dice, things, 4):
                for paper in self.some_papers(dice, bounds, things, paper_least(bounds, gathering, k)):
                    for asked in (k, k + 1, max(k - 1, 0), FAR):
                        for worth in (thing[0], thing[0] + 1, thing[0] - 1, dice.choice(things)[0], FAR, -FAR):
                            right = shows_least(bounds, gathering, paper, asked, worth)
                            self.check(desk, f"least {word} {asked}", worth, paper, right)

    def test_shows_most_and_often(self):
        for dice, bounds, desk, word, gathering, things in drawn_asked(198, 40):
            if things:
                worth, many = plain_most(things)
                for paper in self.some_papers(dice, bounds, things, paper_most(bounds, gathering)):
                    others = [(worth, many + 1), (worth, many - 1), (worth + 1, many), (FAR, 1), (-FAR, 0)]
                    for told in [(worth, many)] + others:
                        right = shows_most(bounds, gathering, paper, told[0], told[1])
                        self.check(desk, f"most {word}", counted_text(told), paper, right)
            for part in some_parts(dice, things)[:6]:
                found = plain_often(things, part)
                others = [found, found[1:], found[::-1], [], found + [(FAR, 1)], [(bounds[0], 0)] + found]
                for paper in self.some_papers(dice, bounds, things, paper_often(bounds, gathering, part)):
                    for told in others:
                        right = shows_often(bounds, gathering, paper, part, told)
                        self.check(desk, f"often {word} {part}", list_text(told), paper, right)

    def test_the_told_paper_shows_what_is_answered(self):
        for dice, bounds, desk, word, gathering, things in drawn_asked(199, 40):
            numbers = some_numbers(dice, bounds, things)
            asks = [f"{name} {word} {number}" for name in ("below", "up") for number in numbers]
            asks += [f"least {word} {k}" for k, thing in some_of(dice, things, 3)]
            asks += [f"most {word}"] if things else []
            asks += [f"often {word} {part}" for part in some_parts(dice, things)[:6]]
            for ask in asks:
                told = desk.say(ask).split(" ")[0]
                paper = desk.say(f"paper {ask}")
                self.assertEqual(desk.say(f"shows {ask} {told} {paper}"), "yes")
                self.assertEqual(desk.say(f"shows {ask} {told} {recount_text(paper)}"), "no")

    def test_papers_deeper_than_the_levels(self):
        desk = Desk((0, 2))
        desk.say("row 3 1")
        for depth in (3, 41, 100):
            text = "2"
            for level in range(depth):
                text = f"2({text},0)"
            self.assertEqual(desk.say(f"shows below 1:0:2 9 2 {text}"), "no")
        self.assertEqual(desk.say("shows below 1:0:2 9 2 2"), "yes")

    def test_a_paper_of_very_many_parts(self):
        dice = random.Random(200)
        bounds = (0, 40)
        desk = Desk(bounds)
        for turn in range(4):
            desk.say("row " + " ".join(str(dice.randint(0, top(bounds))) for place in range(100)))
        word = "1:0:100+2:0:100+3:0:100+4:0:100"
        paper = desk.say(f"paper often {word} 1000")
        self.assertGreater(len(paper), 4000)
        told = desk.say(f"often {word} 1000")
        self.assertEqual(len(told.split(",")), 400)
        self.assertEqual(desk.say(f"shows often {word} 1000 {told} {paper}"), "yes")
        self.assertEqual(desk.say(f"shows often {word} 1000 {told} {recount_text(paper)}"), "no")


def recounted(dice, paper):
    """The paper with one count more or less anywhere."""
    if paper[0] == "all" or dice.random() < 0.3:
        return (paper[0], paper[1] + 1 if paper[1] == 0 else paper[1] + dice.choice((1, -1))) + paper[2:]
    if dice.random() < 0.5:
        return paper[:2] + (recounted(dice, paper[2]), paper[3])
    return paper[:3] + (recounted(dice, paper[3]),)


def recount_text(text):
    """The text with its first many one more."""
    figures = text.split("(")[0]
    return str(int(figures) + 1) + text[len(figures):]


if __name__ == "__main__":
    unittest.main()
