"""Point 19: the told papers of right answers, and that no split of theirs can be left out."""

import random
import unittest

from drawn import (
    FAR, all_splits, by_parts_below, by_parts_least, by_parts_most, by_parts_often, by_parts_up, closed_at,
    closed_parts_of, closed_ways, drawn_cases, drawn_splits, drawn_worth, gathered, plain_most, plain_often,
    plain_paper, plain_tree, plain_up, plain_worths, refused, same, some_numbers, some_of, some_parts, splits_of,
    splits_towards, things_of, top,
)
from manyleast.errors import NoSuch
from manyleast.papers import keeps, shows_below, shows_least, shows_most, shows_often, shows_up
from manyleast.tellers import paper_below, paper_least, paper_most, paper_often, paper_up


class Ask:
    """One ask of a gathering with its right answer: its told paper, and what papers show of the answer."""

    def __init__(self, tell, asked, shows, by_parts, answered, towards):
        self.tell, self.asked, self.shows, self.sentence = tell, asked, shows, by_parts
        self.answered, self.towards = answered, towards

    def __repr__(self):
        return f"{self.tell.__name__}{self.asked}"

    def told(self, bounds, gathering):
        return self.tell(bounds, gathering, *self.asked)

    def is_shown(self, bounds, gathering, paper):
        return self.shows(bounds, gathering, paper, *self.answered)

    def by_parts(self, bounds, paper):
        return self.sentence(closed_parts_of(bounds, paper), *self.answered)


def ask_below(things, number):
    many = sum(1 for thing in things if thing[0] < number)
    return Ask(paper_below, (number,), shows_below, by_parts_below, (number, many), [number, number - 1])


def ask_least(things, k):
    worth = things[k][0]
    return Ask(paper_least, (k,), shows_least, by_parts_least, (k, worth), [worth])


def ask_most(things):
    right = plain_most(things)
    towards = [worth for worth, many in plain_worths(things)]
    return Ask(paper_most, (), shows_most, by_parts_most, right, towards)


def ask_often(things, part):
    right = plain_often(things, part)
    return Ask(paper_often, (part,), shows_often, by_parts_often, (part, right), [worth for worth, many in right])


def ask_up(things, number):
    right = plain_up(things, number)
    towards = [number, number + 1] + ([] if right is None else [right[0]])
    return Ask(paper_up, (number,), shows_up, by_parts_up, (number, right), towards)


def some_asks(dice, bounds, things, many):
    """Of each kind so many asks, and one of what comes most."""
    numbers = some_numbers(dice, bounds, things)
    asks = [ask_below(things, number) for number in dice.sample(numbers, many)]
    asks += [ask_up(things, number) for number in dice.sample(numbers, many)]
    asks += [ask_often(things, part) for part in dice.sample(some_parts(dice, things), many)]
    if things:
        asks += [ask_least(things, k) for k, thing in some_of(dice, things, many - 1)[:many]] + [ask_most(things)]
    return asks


def every_ask(bounds, things):
    """All asks of small bounds."""
    numbers = range(bounds[0] - 2, top(bounds) + 3)
    asks = [ask_below(things, number) for number in numbers] + [ask_up(things, number) for number in numbers]
    asks += [ask_often(things, part) for part in range(1, len(things) + 2)]
    if things:
        asks += [ask_least(things, k) for k in range(len(things))] + [ask_most(things)]
    return asks


def some_ways(dice, splits, many):
    """All of the splits, or so many of them."""
    return sorted(splits) if len(splits) <= many else dice.sample(sorted(splits), many)


def told_by_point_19(showing):
    """The splits of the told paper, from those of all papers that show the answer."""
    told = set()
    ways = [()]
    while ways:
        way = ways.pop()
        if not any(way in closed_ways(splits) for splits in showing):
            told.add(way)
            ways += [way + (0,), way + (1,)]
    return told


class Told(unittest.TestCase):
    def test_it_is_kept_and_shows_the_answer(self):
        for dice, bounds, rows, spots, gathering, things in drawn_cases(120, 120):
            for ask in some_asks(dice, bounds, things, 4):
                paper = ask.told(bounds, gathering)
                self.assertTrue(same(paper, plain_paper(bounds, things, splits_of(paper))), (bounds, rows, spots, ask))
                self.assertIs(keeps(bounds[1], gathering, paper), True, (bounds, rows, spots, ask))
                self.assertIs(ask.is_shown(bounds, gathering, paper), True, (bounds, rows, spots, ask))
                self.assertTrue(ask.by_parts(bounds, paper), (bounds, rows, spots, ask))
            self.assertTrue(same(gathering, gathered(bounds, rows, spots)))

    def test_with_any_one_of_its_splits_closed_it_does_not_show_it(self):
        for dice, bounds, rows, spots, gathering, things in drawn_cases(121, 80):
            for ask in some_asks(dice, bounds, things, 2):
                splits = splits_of(ask.told(bounds, gathering))
                for way in some_ways(dice, splits, 12):
                    paper = plain_paper(bounds, things, closed_at(splits, way))
                    self.assertIs(keeps(bounds[1], gathering, paper), True)
                    self.assertIs(ask.is_shown(bounds, gathering, paper), False, (bounds, rows, spots, ask, way))
                    self.assertFalse(ask.by_parts(bounds, paper), (bounds, rows, spots, ask, way))

    def test_split_further_it_still_shows_it(self):
        for dice, bounds, rows, spots, gathering, things in drawn_cases(122, 80):
            for ask in some_asks(dice, bounds, things, 2):
                splits = splits_of(ask.told(bounds, gathering))
                more = splits | splits_towards(bounds, [drawn_worth(dice, bounds), bounds[0], top(bounds)])
                for turn in range(dice.randint(1, 6)):
                    open_ways = [way for way in closed_ways(splits) if len(way) < bounds[1]]
                    splits = splits | {dice.choice(open_ways)} if open_ways else splits
                for further in (splits, more):
                    paper = plain_paper(bounds, things, further)
                    self.assertIs(ask.is_shown(bounds, gathering, paper), True, (bounds, rows, spots, ask, further))

    def test_each_other_paper_that_shows_it_has_its_splits(self):
        shown = 0
        for dice, bounds, rows, spots, gathering, things in drawn_cases(123, 120):
            for ask in some_asks(dice, bounds, things, 2):
                told = splits_of(ask.told(bounds, gathering))
                for turn in range(4):
                    splits = drawn_splits(dice, bounds, ask.towards)
                    paper = plain_paper(bounds, things, splits)
                    is_shown = ask.is_shown(bounds, gathering, paper)
                    self.assertIs(is_shown, ask.by_parts(bounds, paper), (bounds, rows, spots, ask, splits))
                    self.assertIs(is_shown, told <= splits, (bounds, rows, spots, ask, splits))
                    shown += is_shown and told < splits
        self.assertGreater(shown, 300)

    def test_against_all_papers(self):
        dice = random.Random(124)
        for levels, turns in ((0, 6), (1, 20), (2, 40), (3, 30), (4, 2)):
            papers = all_splits(levels)
            for turn in range(turns):
                bounds = (dice.randint(-5, 5), levels)
                few = [drawn_worth(dice, bounds) for number in range(dice.randint(1, 4))]
                row = [dice.choice(few) for place in range(dice.choice((0, 1, 2, 4, 8)))]
                row += [drawn_worth(dice, bounds) for place in range(dice.randint(0, 4))]
                spots = [(0, 0, len(row)), (0, len(row) // 2, len(row))][:dice.randint(1, 2)]
                things = things_of([row], spots)
                gathering = gathered(bounds, [row], spots)
                written = [plain_paper(bounds, things, splits) for splits in papers]
                for ask in every_ask(bounds, things):
                    showing = [set(splits) for splits, paper in zip(papers, written) if ask.by_parts(bounds, paper)]
                    told = told_by_point_19(showing)
                    right = plain_paper(bounds, things, told)
                    self.assertTrue(same(ask.told(bounds, gathering), right), (bounds, row, spots, ask))
                    self.assertIn(told, showing)

    def test_what_is_done_later_to_a_gathering_changes_nothing_told(self):
        bounds = (0, 2)
        gathering = [(plain_tree(bounds, [3, 1, 3]), 0, 3)]
        told = [paper_most(bounds, gathering), paper_often(bounds, gathering, 2), paper_below(bounds, gathering, 2)]
        gathering.append((plain_tree(bounds, [1, 1, 1]), 0, 3))
        upper = ("split", 2, ("all", 0), ("all", 2))
        split = ("split", 3, ("all", 1), upper)
        self.assertTrue(same(told, [split, split, ("split", 3, ("all", 1), ("all", 2))]))
        self.assertTrue(same(paper_below(bounds, gathering, 2), ("split", 6, ("all", 4), ("all", 2))))

    def test_a_paper_of_very_many_parts_may_be_handed_in_again(self):
        dice = random.Random(125)
        bounds = (-(10 ** 40) + 1, 40)
        rows = [[drawn_worth(dice, bounds) for place in range(1000)] for number in range(2)]
        spots = [(0, 0, 1000), (1, 0, 1000), (1, 3, 999)]
        gathering = gathered(bounds, rows, spots)
        right = plain_often(things_of(rows, spots), FAR)
        paper = paper_often(bounds, gathering, FAR)
        self.assertIs(keeps(40, gathering, paper), True)
        self.assertIs(shows_often(bounds, gathering, paper, FAR, right), True)
        self.assertIs(shows_often(bounds, gathering, paper, FAR, right[:-1]), False)
        self.assertIs(keeps(40, gathering[:2], paper), False)


class PaperBelow(unittest.TestCase):
    def test_written_out(self):
        gathering = [(plain_tree((0, 2), [3, 1, 1]), 0, 3)]
        halves = ("split", 3, ("all", 2), ("all", 1))
        lower = ("split", 3, ("split", 2, ("all", 0), ("all", 2)), ("all", 1))
        upper = ("split", 3, ("all", 2), ("split", 1, ("all", 0), ("all", 1)))
        right = [("all", 3), ("all", 3), lower, halves, upper, ("all", 3), ("all", 3)]
        self.assertTrue(same([paper_below((0, 2), gathering, number) for number in (-FAR, 0, 1, 2, 3, 4, FAR)], right))

    def test_a_number_within_an_empty_part_needs_no_split_there(self):
        gathering = [(plain_tree((0, 3), [0, 1]), 0, 2)]
        for number in (4, 5, 6, 7):
            self.assertTrue(same(paper_below((0, 3), gathering, number), ("split", 2, ("all", 2), ("all", 0))))
        for number in (2, 3):
            lower = ("split", 2, ("all", 2), ("all", 0))
            self.assertTrue(same(paper_below((0, 3), gathering, number), ("split", 2, lower, ("all", 0))))


class PaperLeast(unittest.TestCase):
    def test_it_splits_just_towards_the_worth(self):
        for dice, bounds, rows, spots, gathering, things in drawn_cases(126, 100):
            for k, thing in some_of(dice, things, 5):
                right = plain_paper(bounds, things, splits_towards(bounds, [thing[0]]))
                self.assertTrue(same(paper_least(bounds, gathering, k), right), (bounds, rows, spots, k))

    def test_no_such_k(self):
        for dice, bounds, rows, spots, gathering, things in drawn_cases(127, 100):
            many = len(things)
            for k in (-1, -many - 1, -FAR, many, many + 1, many + 1000, FAR):
                refused(self, NoSuch, paper_least, bounds, gathering, k)
            self.assertTrue(same(gathering, gathered(bounds, rows, spots)))


class PaperMost(unittest.TestCase):
    def test_like_ones(self):
        # A lesser part with as many things is split, a greater one is not.
        gathering = [(plain_tree((0, 2), [1, 3, 1, 3]), 0, 4)]
        right = ("split", 4, ("split", 2, ("all", 0), ("all", 2)), ("all", 2))
        self.assertTrue(same(paper_most((0, 2), gathering), right))
        gathering = [(plain_tree((0, 2), [0, 1, 3, 3]), 0, 4)]
        right = ("split", 4, ("split", 2, ("all", 1), ("all", 1)), ("split", 2, ("all", 0), ("all", 2)))
        self.assertTrue(same(paper_most((0, 2), gathering), right))

    def test_nothing_in_it(self):
        tree = plain_tree((0, 2), [3, 1])
        for bounds in ((0, 2), (-7, 2)):
            for gathering in ([(None, 0, 0)], [(tree, 1, 1), (None, 0, 0)], [(tree, 2, 2)] * 8):
                refused(self, NoSuch, paper_most, bounds, gathering)
        refused(self, NoSuch, paper_most, (5, 0), [(None, 0, 0)])


class PaperOften(unittest.TestCase):
    def test_written_out(self):
        gathering = [(plain_tree((0, 2), [3, 1, 1, 3, 2]), 0, 5)]
        upper = ("split", 3, ("all", 1), ("all", 2))
        lower = ("split", 2, ("all", 0), ("all", 2))
        right = [("all", 5), ("split", 5, ("all", 2), upper), ("split", 5, lower, upper), ("split", 5, lower, upper)]
        self.assertTrue(same([paper_often((0, 2), gathering, part) for part in (1, 2, 3, FAR)], right))

    def test_as_often_as_the_part_tells_is_no_split(self):
        gathering = [(plain_tree((0, 1), [0, 1]), 0, 2)]
        self.assertTrue(same(paper_often((0, 1), gathering, 1), ("all", 2)))
        self.assertTrue(same(paper_often((0, 1), gathering, 2), ("split", 2, ("all", 1), ("all", 1))))
        flat = [(plain_tree((9, 0), [9, 9]), 0, 2)]
        self.assertTrue(same([paper_often((9, 0), flat, part) for part in (1, 2, FAR)], [("all", 2)] * 3))


class PaperUp(unittest.TestCase):
    def test_written_out(self):
        gathering = [(plain_tree((0, 2), [3, 1, 1]), 0, 3)]
        lower = ("split", 3, ("split", 2, ("all", 0), ("all", 2)), ("all", 1))
        upper = ("split", 3, ("all", 2), ("split", 1, ("all", 0), ("all", 1)))
        right = [lower, lower, upper, upper, ("all", 3), ("all", 3)]
        self.assertTrue(same([paper_up((0, 2), gathering, number) for number in (-FAR, 0, 1, 2, 3, FAR)], right))

    def test_none_above_it(self):
        gathering = [(plain_tree((0, 3), [0, 1, 4]), 0, 3)]
        upper = ("split", 1, ("split", 1, ("all", 1), ("all", 0)), ("all", 0))
        self.assertTrue(same(paper_up((0, 3), gathering, 4), ("split", 3, ("all", 2), upper)))
        upper = ("split", 1, ("all", 1), ("all", 0))
        for number in (5, 6):
            self.assertTrue(same(paper_up((0, 3), gathering, number), ("split", 3, ("all", 2), upper)))
        self.assertTrue(same(paper_up((0, 3), gathering, 7), ("all", 3)))


class NothingInIt(unittest.TestCase):
    def test_it_is_closed_whole(self):
        tree = plain_tree((0, 2), [3, 1])
        for gathering in ([(None, 0, 0)], [(tree, 1, 1), (None, 0, 0)], [(tree, 2, 2)] * 8):
            for number in (-FAR, -1, 0, 1, 2, 3, 4, FAR):
                self.assertTrue(same(paper_below((0, 2), gathering, number), ("all", 0)))
                self.assertTrue(same(paper_up((0, 2), gathering, number), ("all", 0)))
                refused(self, NoSuch, paper_least, (0, 2), gathering, number)
            for part in (1, 2, FAR):
                self.assertTrue(same(paper_often((0, 2), gathering, part), ("all", 0)))


if __name__ == "__main__":
    unittest.main()
