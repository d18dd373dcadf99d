"""Point 16: the first and the last place of a stretch between low and high."""

import random
import unittest

from drawn import (
    FAR, drawn_bounds, drawn_case, drawn_row, drawn_worth, gathered, long_row, plain_tree, same, some_numbers,
)
from manyleast.places import first_place, last_place


def cases(seed, many):
    """A row with its tree, and stretches of it: the whole, empty ones, some others."""
    dice = random.Random(seed)
    for turn in range(many):
        bounds = drawn_bounds(dice)
        row = long_row(dice, bounds) if turn % 10 == 0 else drawn_row(dice, bounds)
        start = dice.randint(0, len(row))
        ends = [(0, len(row)), (start, start), (start, len(row)), (0, start), (start, dice.randint(start, len(row)))]
        for end in ends:
            yield dice, bounds, row, (plain_tree(bounds, row),) + end


def drawn_pairs(dice, bounds, row):
    """Lows and highs from the row, beside it, alike, far off, low above high."""
    numbers = some_numbers(dice, bounds, [(number,) for number in sorted(row)])
    pairs = [(dice.choice(numbers), dice.choice(numbers)) for turn in range(20)]
    pairs += [(number, number) for number in numbers]
    return pairs + [(-FAR, FAR), (FAR, -FAR), (bounds[0], drawn_worth(dice, bounds)), (drawn_worth(dice, bounds), FAR)]


def plain_places(row, stretch, low, high):
    return [place for place in range(stretch[1], stretch[2]) if low <= row[place] <= high]


class Ends(unittest.TestCase):
    def test_against_a_going_through(self):
        for dice, bounds, row, stretch in cases(90, 120):
            for low, high in drawn_pairs(dice, bounds, row):
                places = plain_places(row, stretch, low, high) or [None]
                spot = (bounds, row, stretch[1:], low, high)
                self.assertTrue(same(first_place(bounds, stretch, low, high), places[0]), spot)
                self.assertTrue(same(last_place(bounds, stretch, low, high), places[-1]), spot)
            self.assertTrue(same(stretch, (plain_tree(bounds, row),) + stretch[1:]))

    def test_stretches_of_gatherings(self):
        dice = random.Random(91)
        for turn in range(60):
            bounds, rows, spots, gathering = drawn_case(dice, turn)
            for (number, start, end), stretch in zip(spots, gathering):
                for low, high in drawn_pairs(dice, bounds, rows[number])[:8]:
                    places = plain_places(rows[number], stretch, low, high) or [None]
                    self.assertTrue(same(first_place(bounds, stretch, low, high), places[0]))
                    self.assertTrue(same(last_place(bounds, stretch, low, high), places[-1]))
            self.assertTrue(same(gathering, gathered(bounds, rows, spots)))

    def test_low_above_high(self):
        for dice, bounds, row, stretch in cases(92, 60):
            for low, high in drawn_pairs(dice, bounds, row):
                for less in (low - 1, low - 2, low - 2 ** bounds[1], low - 10 ** 49):
                    self.assertIsNone(first_place(bounds, stretch, low, less))
                    self.assertIsNone(last_place(bounds, stretch, low, less))

    def test_an_empty_stretch(self):
        tree = plain_tree((0, 2), [3, 1, 3])
        for stretch in ((None, 0, 0), (tree, 0, 0), (tree, 1, 1), (tree, 3, 3)):
            for low, high in ((-FAR, FAR), (0, 3), (1, 1), (3, 3), (3, 0)):
                self.assertIsNone(first_place((0, 2), stretch, low, high))
                self.assertIsNone(last_place((0, 2), stretch, low, high))

    def test_places_are_those_of_the_trees_row(self):
        bounds = (-2, 3)
        stretch = (plain_tree(bounds, [4, -2, 0, 5, 0, 4, -2]), 1, 6)
        asked = ((0, 0), (4, 5), (5, 5), (-2, -2), (-2, 0), (0, 4), (1, 3), (-FAR, -3), (6, FAR), (-FAR, FAR), (5, 4))
        first = [2, 3, 3, 1, 1, 2, None, None, None, 1, None]
        last = [4, 5, 3, 1, 4, 5, None, None, None, 5, None]
        self.assertTrue(same([first_place(bounds, stretch, low, high) for low, high in asked], first))
        self.assertTrue(same([last_place(bounds, stretch, low, high) for low, high in asked], last))

    def test_one_worth_alone(self):
        stretch = (("many", 5), 1, 4)
        for low, high, first, last in ((7, 7, 1, 3), (6, 8, 1, 3), (8, 9, None, None), (5, 6, None, None)):
            self.assertTrue(same(first_place((7, 0), stretch, low, high), first))
            self.assertTrue(same(last_place((7, 0), stretch, low, high), last))


if __name__ == "__main__":
    unittest.main()
