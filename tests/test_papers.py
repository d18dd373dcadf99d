"""Points 17 and 18: when a paper is kept, and what a kept one shows."""

import itertools
import unittest

from drawn import (
    FAR, Sour, all_splits, by_parts_below, by_parts_least, by_parts_most, by_parts_often, by_parts_up, closed_parts_of,
    closed_ways, drawn_cases, drawn_splits, drawn_worth, gathered, plain_most, plain_often, plain_paper, plain_tree,
    plain_up, plain_worths, same, some_numbers, some_of, some_parts, splits_of, splits_towards, strange, top,
)
from manyleast.asks import below, nth_least
from manyleast.often import most, often
from manyleast.papers import keeps, shows_below, shows_least, shows_most, shows_often, shows_up
from manyleast.ups import next_up


def drawn_papers(dice, bounds, things, numbers, many):
    """So many papers that are kept, with their closed parts, split here and there towards the numbers."""
    for turn in range(many):
        paper = plain_paper(bounds, things, drawn_splits(dice, bounds, numbers))
        yield paper, closed_parts_of(bounds, paper)


def some_worths(dice, things, many):
    return [thing[0] for k, thing in some_of(dice, things, many)]


def whole_paper(bounds, things):
    """The paper with each worth of the things closed by itself."""
    return plain_paper(bounds, things, splits_towards(bounds, [thing[0] for thing in things]))


def node_at(paper, way):
    for turn in way:
        paper = paper[2 + turn]
    return paper


def with_node(paper, way, node):
    """The paper with the node in the place of that at the way."""
    if not way:
        return node
    halves = list(paper[2:])
    halves[way[0]] = with_node(halves[way[0]], way[1:], node)
    return paper[:2] + tuple(halves)


def wrong_nodes(node):
    """What can't stand in the node's place, whatever its way is."""
    word, many, halves = node[0], node[1], node[2:]
    manys = [many + 1, many - 1, -many - 1, many + 10 ** 49, FAR, -FAR]
    manys += [True, False, None, str(many), float(many), [many], (many,), complex(many), Sour()]
    words = ["All", "ALL", "all ", "", "many", "part", "split ", b"all", b"split", None, True, 0, ("all",), Sour()]
    words += [["all"], ["split"], "split" if word == "all" else "all"]
    wrong = [(word, other) + halves for other in manys] + [(other, many) + halves for other in words]
    wrong += [(), node[:1], node[:-1], node[1:], node + (None,), node + (0,), node + (node,), node[:2] * 2, (node,)]
    wrong += [list(node), [node], (word, many) + (halves or node) * 2, (many, word) + halves]
    wrong += [("split", many, node, ("all", 0), ("all", 0)), ("split", many, node), ("split", many, None, node)]
    if halves and halves[0][1] != halves[1][1]:
        wrong.append((word, many, halves[1], halves[0]))
    return wrong + strange()


def torn_nodes(many):
    """Splits with right sums, which can't stand at a full way all the same."""
    return [("split", many, ("all", lower), ("all", many - lower)) for lower in (0, many)]


def wrong_papers(dice, bounds, paper, many):
    """The paper with what can't stand there at so many of its ways: its own, closed ones, split ones."""
    splits = splits_of(paper)
    ways = sorted(splits) + closed_ways(splits)
    for way in {()} | {dice.choice(ways) for turn in range(many)}:
        node = node_at(paper, way)
        for wrong in wrong_nodes(node) + (torn_nodes(node[1]) if len(way) == bounds[1] else []):
            yield with_node(paper, way, wrong)


class Keeps(unittest.TestCase):
    def test_with_the_counts_of_the_plain_rows(self):
        for dice, bounds, rows, spots, gathering, things in drawn_cases(100, 150):
            numbers = some_worths(dice, things, 4) + [drawn_worth(dice, bounds), bounds[0], top(bounds)]
            for paper, parts in drawn_papers(dice, bounds, things, numbers, 6):
                self.assertIs(keeps(bounds[1], gathering, paper), True, (bounds, rows, spots, paper))
            self.assertIs(keeps(bounds[1], gathering, whole_paper(bounds, things)), True)
            self.assertIs(keeps(bounds[1], gathering, ("all", len(things))), True)
            self.assertTrue(same(gathering, gathered(bounds, rows, spots)))

    def test_with_what_cannot_stand_there(self):
        for dice, bounds, rows, spots, gathering, things in drawn_cases(101, 40):
            numbers = some_worths(dice, things, 2) + [drawn_worth(dice, bounds)]
            for paper, parts in drawn_papers(dice, bounds, things, numbers, 2):
                for wrong in wrong_papers(dice, bounds, paper, 4):
                    self.assertIs(keeps(bounds[1], gathering, wrong), False)

    def test_a_split_with_the_right_sum_and_other_halves(self):
        for dice, bounds, rows, spots, gathering, things in drawn_cases(102, 100):
            for paper, parts in drawn_papers(dice, bounds, things, some_worths(dice, things, 2), 3):
                part = dice.choice(parts)
                if part.is_full:
                    continue
                middle = (part.least + part.greatest + 1) // 2
                lower = sum(1 for thing in things if part.least <= thing[0] < middle)
                for other in (lower - 1, lower, lower + 1, lower + FAR, part.many - lower):
                    node = ("split", part.many, ("all", other), ("all", part.many - other))
                    told = keeps(bounds[1], gathering, with_node(paper, part.way, node))
                    self.assertIs(told, other == lower, (bounds, rows, spots, paper, part.way, other))

    def test_every_small_paper(self):
        manys = (-1, 0, 1, 2, 3)
        papers = [("all", many) for many in manys]
        papers += [
            ("split", many, ("all", lower), ("all", upper)) for many, lower, upper in itertools.product(manys, repeat=3)
        ]
        for row in ([], [4], [5], [4, 5], [5, 5], [5, 4, 5], [4, 4, 4]):
            things = [(number, 0, place) for place, number in enumerate(row)]
            right = [plain_paper((4, 1), things, splits) for splits in all_splits(1)]
            for paper in papers:
                told = keeps(1, [(plain_tree((4, 1), row), 0, len(row))], paper)
                self.assertIs(told, paper in right, (row, paper))
                flat = [(plain_tree((4, 0), [4] * len(row)), 0, len(row))]
                self.assertIs(keeps(0, flat, paper), paper == ("all", len(row)), (row, paper))

    def test_for_another_gathering_just_where_the_counts_are_the_same(self):
        for dice, bounds, rows, spots, gathering, things in drawn_cases(103, 100):
            j = dice.randrange(len(gathering))
            fewer = [thing for thing in things if thing[1] != j]
            for paper, parts in drawn_papers(dice, bounds, things, some_worths(dice, things, 3), 3):
                told = keeps(bounds[1], gathering[:j] + [(None, 0, 0)] + gathering[j + 1:], paper)
                self.assertIs(told, paper == plain_paper(bounds, fewer, splits_of(paper)))

    def test_empty_parts_split_down_to_full_ways(self):
        for row in ([], [3] * 5):
            gathering = [(plain_tree((3, 40), row), 0, len(row))]
            things = [(3, 0, place) for place in range(len(row))]
            paper = plain_paper((3, 40), things, splits_towards((3, 40), [top((3, 40)), 3, 10 ** 9]))
            self.assertIs(keeps(40, gathering, paper), True)
            for way in ((0,) * 40, (1,) * 40):
                many = node_at(paper, way)[1]
                self.assertIs(keeps(40, gathering, with_node(paper, way, ("all", many + 1))), False)
                for torn in torn_nodes(many):
                    self.assertIs(keeps(40, gathering, with_node(paper, way, torn)), False)

    def test_written_out(self):
        tree = plain_tree((-2, 2), [1, -2, 1, 0])
        gathering = [(tree, 0, 4), (tree, 1, 3)]
        upper = ("split", 4, ("all", 1), ("all", 3))
        for paper in (("all", 6), ("split", 6, ("all", 2), ("all", 4)), ("split", 6, ("all", 2), upper)):
            self.assertIs(keeps(2, gathering, paper), True)
        for paper in (("all", 5), ("split", 6, ("all", 4), ("all", 2)), ("split", 4, ("all", 2), upper), upper, None):
            self.assertIs(keeps(2, gathering, paper), False)
        self.assertIs(keeps(2, [(None, 0, 0)], ("split", 0, ("all", 0), ("split", 0, ("all", 0), ("all", 0)))), True)
        self.assertIs(keeps(2, [(None, 0, 0)], ("all", False)), False)
        self.assertIs(keeps(2, [(tree, 0, 1)], ("split", 1, ("all", 0), ("all", True))), False)


class ShowsCase(unittest.TestCase):
    """Asks each answer of a paper, compares with the sentence of point 18 and with the right answer."""

    def setUp(self):
        self.told = {True: 0, False: 0}

    def tearDown(self):
        if any(self.told.values()):
            self.assertGreater(min(self.told.values()), 100, self.told)

    def ask(self, told, by_parts, is_right, words):
        self.assertIs(told, by_parts, words)
        if told:
            self.assertTrue(is_right, words)
        self.told[told] += 1


class ShowsBelow(ShowsCase):
    def test_the_sentence(self):
        for dice, bounds, rows, spots, gathering, things in drawn_cases(110, 100):
            for number in dice.sample(some_numbers(dice, bounds, things), 6):
                right = sum(1 for thing in things if thing[0] < number)
                numbers = [number, number - 1, number + 1] + some_worths(dice, things, 1)
                for paper, parts in drawn_papers(dice, bounds, things, numbers, 3):
                    for many in (right, right, right - 1, right + 1, 0, len(things), -1, FAR):
                        told = shows_below(bounds, gathering, paper, number, many)
                        words = (bounds, rows, spots, paper, number, many)
                        self.ask(told, by_parts_below(parts, number, many), many == right, words)
            self.assertTrue(same(gathering, gathered(bounds, rows, spots)))

    def test_written_out(self):
        gathering = [(plain_tree((0, 2), [3, 1, 1]), 0, 3)]
        whole = ("all", 3)
        halves = ("split", 3, ("all", 2), ("all", 1))
        lower = ("split", 3, ("split", 2, ("all", 0), ("all", 2)), ("all", 1))
        for number, many, papers in (
            (-5, 0, (whole, halves, lower)), (0, 0, (whole, halves, lower)), (1, 0, (lower,)), (2, 2, (halves, lower)),
            (3, 2, ()), (4, 3, (whole, halves, lower)), (9, 3, (whole, halves, lower)),
        ):
            for paper in (whole, halves, lower):
                for told in range(-1, 5):
                    shown = shows_below((0, 2), gathering, paper, number, told)
                    self.assertIs(shown, told == many and paper in papers, (paper, number, told))


class ShowsLeast(ShowsCase):
    def test_the_sentence(self):
        for dice, bounds, rows, spots, gathering, things in drawn_cases(111, 80):
            for k in {0, -1, len(things), FAR} | {k for k, thing in some_of(dice, things, 4)}:
                right = things[k][0] if 0 <= k < len(things) else None
                near = dice.choice(things)[0] if things else drawn_worth(dice, bounds)
                worths = [near, near + 1, bounds[0], top(bounds), bounds[0] - 1, top(bounds) + 1, FAR, -FAR]
                worths += [] if right is None else [right, right, right, right - 1, right + 1]
                for paper, parts in drawn_papers(dice, bounds, things, worths[-3:] + [near], 3):
                    for worth in worths:
                        told = shows_least(bounds, gathering, paper, k, worth)
                        words = (bounds, rows, spots, paper, k, worth)
                        self.ask(told, by_parts_least(parts, k, worth), worth == right, words)
            self.assertTrue(same(gathering, gathered(bounds, rows, spots)))

    def test_written_out(self):
        gathering = [(plain_tree((0, 2), [3, 1, 1]), 0, 3)]
        paper = ("split", 3, ("split", 2, ("all", 0), ("all", 2)), ("all", 1))
        shown = [(k, worth) for k in range(-2, 5) for worth in range(-2, 6)
                 if shows_least((0, 2), gathering, paper, k, worth)]
        self.assertEqual(shown, [(0, 1), (1, 1)])
        flat = [(plain_tree((6, 0), [6, 6]), 0, 2)]
        shown = [(k, worth) for k in range(-2, 5) for worth in range(4, 9)
                 if shows_least((6, 0), flat, ("all", 2), k, worth)]
        self.assertEqual(shown, [(0, 6), (1, 6)])


class ShowsMost(ShowsCase):
    def test_the_sentence(self):
        for dice, bounds, rows, spots, gathering, things in drawn_cases(112, 120):
            right = plain_most(things)
            counted = plain_worths(things)
            pairs = [(bounds[0], 0), (top(bounds), 0), (bounds[0] - 1, 0), (top(bounds) + 1, 1), (FAR, 1), (-FAR, 0)]
            pairs += dice.sample(counted, min(len(counted), 4))
            if right is not None:
                worth, many = right
                pairs += [right, right, right, (worth, many + 1), (worth, many - 1), (worth, -many)]
                pairs += [(worth + 1, many), (worth - 1, many), (top(bounds) + 1, many)]
            often_ones = [worth for worth, many in counted if right[1] - many < 2][:8]
            for paper, parts in drawn_papers(dice, bounds, things, often_ones + some_worths(dice, things, 4), 6):
                for worth, many in pairs:
                    told = shows_most(bounds, gathering, paper, worth, many)
                    words = (bounds, rows, spots, paper, worth, many)
                    self.ask(told, by_parts_most(parts, worth, many), (worth, many) == right, words)
            self.assertTrue(same(gathering, gathered(bounds, rows, spots)))

    def test_like_ones(self):
        gathering = [(plain_tree((0, 2), [1, 3, 0, 1, 3]), 0, 5)]
        lower = ("split", 3, ("all", 1), ("all", 2))
        upper = ("split", 2, ("all", 0), ("all", 2))
        for paper, shown in (
            (("split", 5, lower, upper), [(1, 2)]), (("split", 5, lower, ("all", 2)), [(1, 2)]),
            (("split", 5, ("all", 3), upper), []), (("split", 5, ("all", 3), ("all", 2)), []), (("all", 5), []),
        ):
            told = [(worth, many) for worth in range(-2, 6) for many in range(-1, 7)
                    if shows_most((0, 2), gathering, paper, worth, many)]
            self.assertEqual(told, shown, paper)

    def test_a_lesser_part_with_as_many_hides_it(self):
        gathering = [(plain_tree((0, 2), [0, 1, 3, 3]), 0, 4)]
        upper = ("split", 2, ("all", 0), ("all", 2))
        self.assertIs(shows_most((0, 2), gathering, ("split", 4, ("all", 2), upper), 3, 2), False)
        lower = ("split", 2, ("all", 1), ("all", 1))
        self.assertIs(shows_most((0, 2), gathering, ("split", 4, lower, upper), 3, 2), True)
        gathering = [(plain_tree((0, 2), [2, 3, 0, 0]), 0, 4)]
        lower = ("split", 2, ("all", 2), ("all", 0))
        self.assertIs(shows_most((0, 2), gathering, ("split", 4, lower, ("all", 2)), 0, 2), True)


class ShowsOften(ShowsCase):
    def answers(self, dice, bounds, right):
        told = [right, right, [], right + [(FAR, 1)], [(-FAR, 2)] + right, right + [(top(bounds), 1)], right + right]
        told += [[(bounds[0], 1)]]
        if right:
            worth, many = right[-1]
            told += [right[1:], right[:-1], right[:-1] + [(worth, many + 1)], right[:-1] + [(worth, many - 1)]]
            told += [right[:-1] + [(worth + 1, many)], right[:-1] + [(worth - 1, many)], right + [right[-1]]]
        if len(right) > 1:
            told += [right[::-1], dice.sample(right, len(right)), right[1:] + right[:1]]
        return told

    def test_the_sentence(self):
        for dice, bounds, rows, spots, gathering, things in drawn_cases(113, 80):
            for part in dice.sample(some_parts(dice, things), 4):
                right = plain_often(things, part)
                towards = [worth for worth, many in right] if dice.random() < 0.7 else []
                splits = splits_towards(bounds, towards)
                papers = [plain_paper(bounds, things, splits)]
                papers += [paper for paper, parts in drawn_papers(dice, bounds, things, towards[:6], 2)]
                for paper in papers:
                    parts = closed_parts_of(bounds, paper)
                    for told in self.answers(dice, bounds, right):
                        handed = list(told)
                        shown = shows_often(bounds, gathering, paper, part, handed)
                        words = (bounds, rows, spots, paper, part, told)
                        self.ask(shown, by_parts_often(parts, part, told), told == right, words)
                        self.assertTrue(same(handed, told))
            self.assertTrue(same(gathering, gathered(bounds, rows, spots)))

    def test_written_out(self):
        gathering = [(plain_tree((0, 2), [3, 1, 1, 3, 2]), 0, 5)]
        halves = ("split", 5, ("all", 2), ("all", 3))
        upper = ("split", 5, ("all", 2), ("split", 3, ("all", 1), ("all", 2)))
        both = ("split", 5, ("split", 2, ("all", 0), ("all", 2)), ("split", 3, ("all", 1), ("all", 2)))
        for part, told, papers in (
            (1, [], (halves, upper, both)), (2, [], (upper, both)), (3, [(1, 2), (3, 2)], (both,)),
            (3, [(3, 2), (1, 2)], ()), (3, [(1, 2)], ()), (3, [(3, 2)], ()), (6, [(1, 2), (2, 1), (3, 2)], (both,)),
            (5, [(1, 2), (3, 2)], (both,)), (6, [(0, 0), (1, 2), (2, 1), (3, 2)], ()),
        ):
            for paper in (("all", 5), halves, upper, both):
                shown = shows_often((0, 2), gathering, paper, part, told)
                self.assertIs(shown, paper in papers or (part, paper) == (1, ("all", 5)), (part, told, paper))


class ShowsUp(ShowsCase):
    def answers(self, dice, bounds, things, number, right):
        told = [None, right, right, (number, 1), (number + 1, 1), (top(bounds) + 1, 1), (bounds[0] - 1, 1), (FAR, 1)]
        counted = plain_worths(things)
        told += dice.sample(counted, min(2, len(counted))) + [(bounds[0], 0), (top(bounds), 0)]
        if right is not None:
            worth, many = right
            told += [(worth, many + 1), (worth, many - 1), (worth, 0), (worth, -many), (worth + 1, many)]
            told += [(worth - 1, many), plain_up(things, worth)]
        return told

    def test_the_sentence(self):
        for dice, bounds, rows, spots, gathering, things in drawn_cases(114, 70):
            for number in dice.sample(some_numbers(dice, bounds, things), 6):
                right = plain_up(things, number)
                numbers = [number, number + 1] + ([] if right is None else [right[0], right[0]])
                for paper, parts in drawn_papers(dice, bounds, things, numbers + some_worths(dice, things, 1), 3):
                    for told in self.answers(dice, bounds, things, number, right):
                        shown = shows_up(bounds, gathering, paper, number, told)
                        words = (bounds, rows, spots, paper, number, told)
                        self.ask(shown, by_parts_up(parts, number, told), told == right, words)
            self.assertTrue(same(gathering, gathered(bounds, rows, spots)))

    def test_written_out(self):
        gathering = [(plain_tree((0, 2), [3, 1, 1]), 0, 3)]
        whole = ("all", 3)
        halves = ("split", 3, ("all", 2), ("all", 1))
        lower = ("split", 3, ("split", 2, ("all", 0), ("all", 2)), ("all", 1))
        upper = ("split", 3, ("all", 2), ("split", 1, ("all", 0), ("all", 1)))
        answers = [None] + [(worth, many) for worth in range(-1, 6) for many in range(-1, 5)]
        for number, told, papers in (
            (-9, (1, 2), (lower,)), (0, (1, 2), (lower,)), (1, (3, 1), (upper,)), (2, (3, 1), (upper,)),
            (3, None, (whole, halves, lower, upper)), (9, None, (whole, halves, lower, upper)),
        ):
            for paper in (whole, halves, lower, upper):
                for answer in answers:
                    shown = shows_up((0, 2), gathering, paper, number, answer)
                    self.assertIs(shown, answer == told and paper in papers, (number, answer, paper))


class AllShows(unittest.TestCase):
    def shown(self, bounds, gathering, papers, number, k, part):
        """What each paper shows of right answers, as 11 to 15 tell them."""
        least = nth_least(bounds, gathering, k)[0]
        many = below(bounds, gathering, number)
        common = most(bounds, gathering)
        listed = often(bounds, gathering, part)
        up = next_up(bounds, gathering, number)
        return [
            [
                shows_below(bounds, gathering, paper, number, many), shows_least(bounds, gathering, paper, k, least),
                shows_most(bounds, gathering, paper, *common), shows_often(bounds, gathering, paper, part, listed),
                shows_up(bounds, gathering, paper, number, up),
            ]
            for paper in papers
        ]

    def test_each_worth_by_itself_shows_all_that_is_right(self):
        for dice, bounds, rows, spots, gathering, things in drawn_cases(115, 60):
            paper = whole_paper(bounds, things)
            for k, thing in some_of(dice, things, 3):
                told = self.shown(bounds, gathering, [paper], thing[0], k, dice.randint(1, 9))
                self.assertTrue(same(told, [[True] * 5]), (bounds, rows, spots))

    def test_a_paper_that_is_not_kept_shows_nothing(self):
        for dice, bounds, rows, spots, gathering, things in drawn_cases(116, 40):
            if 0 < len(things) < 20:
                k = dice.randrange(len(things))
                papers = list(wrong_papers(dice, bounds, whole_paper(bounds, things), 2))
                told = self.shown(bounds, gathering, papers, things[k][0], k, dice.randint(1, 9))
                self.assertTrue(same(told, [[False] * 5] * len(papers)))

    def test_nothing_in_it(self):
        tree = plain_tree((0, 2), [3, 1])
        split = ("split", 0, ("all", 0), ("split", 0, ("all", 0), ("all", 0)))
        for gathering in ([(None, 0, 0)], [(tree, 1, 1), (None, 0, 0)], [(tree, 2, 2)] * 8):
            for paper in (("all", 0), split):
                for number in (-FAR, -1, 0, 2, 3, 4, FAR):
                    for many in (-1, 0, 1):
                        self.assertIs(shows_below((0, 2), gathering, paper, number, many), many == 0)
                        self.assertIs(shows_least((0, 2), gathering, paper, many, number), False)
                        self.assertIs(shows_most((0, 2), gathering, paper, number, many), False)
                        self.assertIs(shows_up((0, 2), gathering, paper, number, (2, many)), False)
                    self.assertIs(shows_up((0, 2), gathering, paper, number, None), True)
                for part in (1, 2, FAR):
                    self.assertIs(shows_often((0, 2), gathering, paper, part, []), True)
                    self.assertIs(shows_often((0, 2), gathering, paper, part, [(2, 0)]), False)
                    self.assertIs(shows_often((0, 2), gathering, paper, part, [(2, 1)]), False)
            for wrong in (("all", 1), ("all", False), ("split", 0, ("all", 1), ("all", -1)), None, (), 0):
                self.assertIs(shows_below((0, 2), gathering, wrong, 2, 0), False)
                self.assertIs(shows_often((0, 2), gathering, wrong, 1, []), False)
                self.assertIs(shows_up((0, 2), gathering, wrong, 2, None), False)

    def test_every_paper_of_two_levels(self):
        bounds = (-1, 2)
        for manys in itertools.product(range(3), repeat=4):
            row = [worth for worth, many in zip(range(-1, 3), manys) for turn in range(many)][::-1]
            things = sorted((number, 0, place) for place, number in enumerate(row))
            gathering = [(plain_tree(bounds, row), 0, len(row))]
            for splits in all_splits(2):
                paper = plain_paper(bounds, things, splits)
                parts = closed_parts_of(bounds, paper)
                self.assertIs(keeps(2, gathering, paper), True)
                for one, other in itertools.product(range(-2, 4), range(-1, len(row) + 2)):
                    for shows, by_parts, handed in (
                        (shows_below, by_parts_below, (one, other)), (shows_least, by_parts_least, (other, one)),
                        (shows_most, by_parts_most, (one, other)), (shows_up, by_parts_up, (one, None)),
                        (shows_up, by_parts_up, (0, (one, other))), (shows_up, by_parts_up, (-2, (one, other))),
                        (shows_often, by_parts_often, (3, [(one, other)])),
                    ):
                        told = shows(bounds, gathering, paper, *handed)
                        self.assertIs(told, by_parts(parts, *handed), (row, paper, handed))


if __name__ == "__main__":
    unittest.main()
