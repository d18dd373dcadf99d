"""Point 21: cut out, joined, turned, flipped, put in wider bounds."""

import random
import unittest

from drawn import drawn_bounds, drawn_row, drawn_worth, long_row, plain_tree, refused, same, top
from manyleast.bounds import is_bounds
from manyleast.errors import NoBounds
from manyleast.joins import cut_out, flipped, joined, turned, wider
from manyleast.trees import is_tree, row_of


def drawn_rows(seed, many):
    """The dice, bounds, two rows by them, and their trees; some rows long, some empty, some alike."""
    dice = random.Random(seed)
    for turn in range(many):
        bounds = drawn_bounds(dice)
        one = long_row(dice, bounds) if turn % 12 == 0 else drawn_row(dice, bounds)
        other = list(one) if turn % 6 == 1 else drawn_row(dice, bounds)
        yield dice, bounds, one, other, plain_tree(bounds, one), plain_tree(bounds, other)


def some_stretches(dice, length):
    """Each of a short row; of others the whole, empty ones, drawn ones."""
    if length < 7:
        return [(start, end) for start in range(length + 1) for end in range(start, length + 1)]
    told = [(0, length), (0, 0), (length, length), (3, 3), (0, 1), (length - 1, length), (1, length), (0, length - 1)]
    return told + [tuple(sorted((dice.randint(0, length), dice.randint(0, length)))) for turn in range(8)]


def mirrored(bounds, row):
    return [bounds[0] + top(bounds) - number for number in row]


class CutOut(unittest.TestCase):
    def test_the_tree_of_the_stretch(self):
        for dice, bounds, row, other, tree, second in drawn_rows(150, 200):
            for start, end in some_stretches(dice, len(row)):
                told = cut_out((tree, start, end))
                self.assertTrue(same(told, plain_tree(bounds, row[start:end])), (bounds, row, start, end))
                self.assertTrue(is_tree(bounds[1], told))
            self.assertTrue(same(tree, plain_tree(bounds, row)))

    def test_cut_at_any_place_and_joined(self):
        for dice, bounds, row, other, tree, second in drawn_rows(151, 100):
            places = range(len(row) + 1) if len(row) < 20 else dice.sample(range(len(row) + 1), 12)
            for place in places:
                told = joined(cut_out((tree, 0, place)), cut_out((tree, place, len(row))))
                self.assertTrue(same(told, tree), (bounds, row, place))

    def test_written_out(self):
        self.assertIsNone(cut_out((None, 0, 0)))
        self.assertIsNone(cut_out((("many", 4), 4, 4)))
        self.assertTrue(same(cut_out((("many", 4), 1, 4)), ("many", 3)))
        tree = ("part", (1, 0, 1), ("many", 1), ("many", 2))
        self.assertTrue(same(cut_out((tree, 0, 3)), tree))
        self.assertTrue(same(cut_out((tree, 1, 3)), ("part", (0, 1), ("many", 1), ("many", 1))))
        self.assertTrue(same(cut_out((tree, 2, 3)), ("part", (1,), None, ("many", 1))))
        self.assertIsNone(cut_out((tree, 2, 2)))


class Joined(unittest.TestCase):
    def test_the_tree_of_both_rows(self):
        for dice, bounds, one, other, first, second in drawn_rows(152, 250):
            self.assertTrue(same(joined(first, second), plain_tree(bounds, one + other)), (bounds, one, other))
            self.assertTrue(same(joined(second, first), plain_tree(bounds, other + one)), (bounds, one, other))
            self.assertTrue(same(joined(first, first), plain_tree(bounds, one + one)), (bounds, one))
            self.assertTrue(same(joined(first, None), first) and same(joined(None, first), first), (bounds, one))
            self.assertTrue(same(first, plain_tree(bounds, one)) and same(second, plain_tree(bounds, other)))

    def test_cut_again_it_is_as_it_was(self):
        for dice, bounds, one, other, first, second in drawn_rows(153, 120):
            tree = joined(first, second)
            self.assertTrue(same(cut_out((tree, 0, len(one))), first), (bounds, one, other))
            self.assertTrue(same(cut_out((tree, len(one), len(one) + len(other))), second), (bounds, one, other))

    def test_written_out(self):
        self.assertIsNone(joined(None, None))
        self.assertTrue(same(joined(("many", 2), ("many", 3)), ("many", 5)))
        told = joined(("part", (1,), None, ("many", 1)), ("part", (0, 1), ("many", 1), ("many", 1)))
        self.assertTrue(same(told, ("part", (1, 0, 1), ("many", 1), ("many", 2))))


class Turned(unittest.TestCase):
    def test_the_tree_of_the_row_from_the_last_to_the_first(self):
        for dice, bounds, row, other, tree, second in drawn_rows(154, 250):
            told = turned(tree)
            self.assertTrue(same(told, plain_tree(bounds, row[::-1])), (bounds, row))
            self.assertTrue(same(turned(told), tree), (bounds, row))
            self.assertTrue(same(tree, plain_tree(bounds, row)))

    def test_joined_and_turned(self):
        for dice, bounds, one, other, first, second in drawn_rows(155, 80):
            self.assertTrue(same(turned(joined(first, second)), joined(turned(second), turned(first))))

    def test_written_out(self):
        self.assertIsNone(turned(None))
        self.assertTrue(same(turned(("many", 3)), ("many", 3)))
        tree = ("part", (1, 0, 0), ("many", 2), ("many", 1))
        self.assertTrue(same(turned(tree), ("part", (0, 0, 1), ("many", 2), ("many", 1))))


class Flipped(unittest.TestCase):
    def test_the_tree_of_low_and_top_less_each_number(self):
        for dice, bounds, row, other, tree, second in drawn_rows(156, 250):
            told = flipped(tree)
            self.assertTrue(same(told, plain_tree(bounds, mirrored(bounds, row))), (bounds, row))
            self.assertTrue(same(flipped(told), tree), (bounds, row))
            self.assertTrue(same(flipped(turned(tree)), turned(told)), (bounds, row))
            self.assertTrue(same(tree, plain_tree(bounds, row)))

    def test_written_out(self):
        self.assertIsNone(flipped(None))
        self.assertTrue(same(flipped(("many", 3)), ("many", 3)))
        tree = ("part", (1, 0, 1), ("many", 1), ("many", 2))
        self.assertTrue(same(flipped(tree), ("part", (0, 1, 0), ("many", 2), ("many", 1))))
        self.assertEqual(row_of((-3, 2), flipped(plain_tree((-3, 2), [-3, 0, -2]))), [0, -3, -1])


class Wider(unittest.TestCase):
    def test_the_bounds_and_the_tree_of_the_same_row(self):
        for dice, bounds, row, other, tree, second in drawn_rows(157, 250):
            low, levels = bounds
            for side, wide in (("up", (low, levels + 1)), ("down", (low - 2 ** levels, levels + 1))):
                if levels == 40 or abs(wide[0]) >= 10 ** 40:
                    refused(self, NoBounds, wider, bounds, tree, side)
                    continue
                told = wider(bounds, tree, side)
                self.assertTrue(same(told, (wide, plain_tree(wide, row))), (bounds, row, side))
                self.assertTrue(is_bounds(told[0]) and is_tree(levels + 1, told[1]))
            self.assertTrue(same(tree, plain_tree(bounds, row)))

    def test_over_and_over_to_the_last_level(self):
        for dice, bounds, row, other, tree, second in drawn_rows(158, 40):
            low = dice.choice((7, -7, 10 ** 39, -(10 ** 39)))
            bounds, row = (low, bounds[1]), [number - bounds[0] + low for number in row]
            told = (bounds, tree)
            while told[0][1] < 40:
                told = wider(told[0], told[1], dice.choice(("up", "down")))
            self.assertTrue(same(told[1], plain_tree(told[0], row)), (told[0], row))
            self.assertEqual(row_of(told[0], told[1]), row)
            refused(self, NoBounds, wider, told[0], told[1], "up")
            refused(self, NoBounds, wider, told[0], told[1], "down")

    def test_a_low_of_more_than_forty_figures(self):
        least = 1 - 10 ** 40
        for levels in (0, 1, 3, 39):
            for low in (least, least + 2 ** levels // 2, least + 2 ** levels - 1):
                tree = plain_tree((low, levels), [low, low + 2 ** levels - 1])
                for handed in (tree, None):
                    refused(self, NoBounds, wider, (low, levels), handed, "down")
                    self.assertTrue(same(wider((low, levels), handed, "up")[0], (low, levels + 1)))
            low = least + 2 ** levels
            tree = plain_tree((low, levels), [low])
            right = ((least, levels + 1), plain_tree((least, levels + 1), [low]))
            self.assertTrue(same(wider((low, levels), tree, "down"), right))

    def test_up_the_low_stays(self):
        for levels in (0, 1, 39):
            bounds = (10 ** 40 - 1, levels)
            for side, low in (("up", 10 ** 40 - 1), ("down", 10 ** 40 - 1 - 2 ** levels)):
                told = wider(bounds, plain_tree(bounds, [top(bounds)]), side)
                right = ((low, levels + 1), plain_tree((low, levels + 1), [top(bounds)]))
                self.assertTrue(same(told, right))

    def test_levels_40(self):
        for low in (0, 5, -5, 10 ** 40 - 1, 1 - 10 ** 40):
            for tree in (None, plain_tree((low, 40), [low])):
                for side in ("up", "down"):
                    refused(self, NoBounds, wider, (low, 40), tree, side)

    def test_written_out(self):
        self.assertTrue(same(wider((5, 0), ("many", 2), "up"), ((5, 1), ("part", (0, 0), ("many", 2), None))))
        self.assertTrue(same(wider((5, 0), ("many", 2), "down"), ((4, 1), ("part", (1, 1), None, ("many", 2)))))
        self.assertTrue(same(wider((5, 3), None, "up"), ((5, 4), None)))
        self.assertTrue(same(wider((5, 3), None, "down"), ((-3, 4), None)))


class ManyNumbers(unittest.TestCase):
    def test_a_thousand(self):
        dice = random.Random(159)
        bounds = (-(10 ** 20), 40)
        row = [drawn_worth(dice, bounds) for place in range(1000)]
        tree = plain_tree(bounds, row)
        self.assertTrue(same(joined(cut_out((tree, 0, 300)), cut_out((tree, 300, 1000))), tree))
        self.assertTrue(same(turned(tree), plain_tree(bounds, row[::-1])))
        self.assertTrue(same(flipped(tree), plain_tree(bounds, mirrored(bounds, row))))


if __name__ == "__main__":
    unittest.main()
