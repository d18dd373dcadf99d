"""Point 8: the part at a way, and the counts at a depth."""

import itertools
import random
import unittest

from drawn import bounds_at, drawn_bounds, drawn_row, drawn_ways, lies_at, long_row, plain_tree, same, turns_of
from manyleast.levels import counts_at, part_at


def cases(seed, many):
    dice = random.Random(seed)
    for turn in range(many):
        bounds = drawn_bounds(dice)
        yield dice, bounds, long_row(dice, bounds) if turn % 20 == 0 else drawn_row(dice, bounds)


class PartAt(unittest.TestCase):
    def test_tree_of_the_numbers_that_lie_there(self):
        for dice, bounds, row in cases(40, 400):
            tree = plain_tree(bounds, row)
            for way in drawn_ways(dice, bounds, [row]):
                there = [number for number in row if lies_at(bounds, way, number)]
                self.assertTrue(same(part_at(tree, way), plain_tree(bounds_at(bounds, way), there)), (bounds, way))

    def test_all_ways_of_small_bounds(self):
        for dice, bounds, row in cases(41, 60):
            bounds = (3, bounds[1] % 5)
            row = drawn_row(dice, bounds)
            tree = plain_tree(bounds, row)
            for length in range(bounds[1] + 1):
                for way in itertools.product((0, 1), repeat=length):
                    there = [number for number in row if lies_at(bounds, way, number)]
                    self.assertTrue(same(part_at(tree, way), plain_tree(bounds_at(bounds, way), there)))

    def test_none_where_there_is_no_number(self):
        tree = plain_tree((0, 3), [5, 5])
        for way in ((0,), (0, 1), (0, 1, 0), (1, 1), (1, 1, 1), (1, 0, 0)):
            self.assertIsNone(part_at(tree, way))
        for way in ((), (0,), (1, 0, 1), (1,) * 40):
            self.assertIsNone(part_at(None, way))

    def test_whole(self):
        for dice, bounds, row in cases(42, 60):
            self.assertTrue(same(part_at(plain_tree(bounds, row), ()), plain_tree(bounds, row)))

    def test_longer_way_from_the_part(self):
        for dice, bounds, row in cases(43, 100):
            tree = plain_tree(bounds, row)
            for way in drawn_ways(dice, bounds, [row]):
                cut = dice.randint(0, len(way))
                self.assertTrue(same(part_at(part_at(tree, way[:cut]), way[cut:]), part_at(tree, way)))

    def test_beyond_the_levels_nothing_is_refused(self):
        self.assertIsNone(part_at(("many", 2), (0,)))
        self.assertIsNone(part_at(("many", 2), (1, 0)))


def counts_one_by_one(bounds, row, depth):
    counts = {}
    for number in row:
        way = turns_of(bounds, number)[:depth]
        counts[way] = counts.get(way, 0) + 1
    return sorted(counts.items())


class CountsAt(unittest.TestCase):
    def test_each_depth(self):
        for dice, bounds, row in cases(44, 200):
            tree = plain_tree(bounds, row)
            for depth in range(bounds[1] + 1):
                told = counts_at(tree, bounds[1], depth)
                self.assertTrue(same(told, counts_one_by_one(bounds, row, depth)), (bounds, row, depth))

    def test_sorted_unlike_ways_of_this_length_above_nought(self):
        for dice, bounds, row in cases(45, 100):
            for depth in range(bounds[1] + 1):
                told = counts_at(plain_tree(bounds, row), bounds[1], depth)
                ways = [way for way, many in told]
                self.assertEqual(ways, sorted(set(ways)))
                self.assertTrue(all(len(way) == depth for way in ways))
                self.assertTrue(all(many > 0 for way, many in told))

    def test_sums_of_those_beneath(self):
        for dice, bounds, row in cases(46, 100):
            tree = plain_tree(bounds, row)
            for depth in range(bounds[1]):
                sums = {}
                for way, many in counts_at(tree, bounds[1], depth + 1):
                    sums[way[:-1]] = sums.get(way[:-1], 0) + many
                self.assertEqual(counts_at(tree, bounds[1], depth), sorted(sums.items()))

    def test_at_nought_all_numbers(self):
        for dice, bounds, row in cases(47, 100):
            told = counts_at(plain_tree(bounds, row), bounds[1], 0)
            self.assertTrue(same(told, [((), len(row))] if row else []))

    def test_told_list_changed(self):
        for dice, bounds, row in cases(48, 60):
            tree = plain_tree(bounds, row)
            for depth in (0, bounds[1]):
                told = counts_at(tree, bounds[1], depth)
                before = list(told)
                told.reverse()
                told.append("x")
                self.assertTrue(same(counts_at(tree, bounds[1], depth), before))
            self.assertTrue(same(tree, plain_tree(bounds, row)))

    def test_written_out(self):
        tree = plain_tree((-2, 2), [0, -1, 0, -2])
        self.assertEqual(counts_at(tree, 2, 0), [((), 4)])
        self.assertEqual(counts_at(tree, 2, 1), [((0,), 2), ((1,), 2)])
        self.assertEqual(counts_at(tree, 2, 2), [((0, 0), 1), ((0, 1), 1), ((1, 0), 2)])
        self.assertEqual(counts_at(None, 40, 40), [])

    def test_beyond_the_depths_there_are_no_ways(self):
        tree = plain_tree((0, 2), [0, 1, 3])
        for depth in (-1, -2, 3, 4):
            self.assertEqual(counts_at(tree, 2, depth), [])


if __name__ == "__main__":
    unittest.main()
