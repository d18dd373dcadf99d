"""Point 22: pairs that fall, rise and are alike, and the falls by ways."""

import random
import unittest

from drawn import drawn_bounds, drawn_row, lies_at, long_row, places_at, plain_pairs, plain_tree, same, turns_of
from manyleast.joins import turned
from manyleast.marks import crossed
from manyleast.pairs import alike, falls, falls_by_ways, rises
from manyleast.stretches import led


def drawn_stretches(seed, many):
    """Bounds, a row, its tree, and stretches of it; some rows long, some empty, some stretches whole, some empty."""
    dice = random.Random(seed)
    for turn in range(many):
        bounds = drawn_bounds(dice)
        row = long_row(dice, bounds) if turn % 25 == 0 else drawn_row(dice, bounds)
        length = len(row)
        ends = {(0, length), (0, 0), (length, length), (length // 2, length // 2)}
        for again in range(4):
            ends.add(tuple(sorted((dice.randint(0, length), dice.randint(0, length)))))
        yield bounds, row, plain_tree(bounds, row), sorted(ends)


def plain_falls_by_ways(bounds, numbers):
    """Each pair that falls, at the way up to which both numbers go together."""
    found = {}
    for greater, behind in enumerate(numbers):
        for ahead in numbers[:greater]:
            if ahead > behind:
                one, other = turns_of(bounds, ahead), turns_of(bounds, behind)
                depth = next(step for step in range(bounds[1]) if one[step] != other[step])
                found[one[:depth]] = found.get(one[:depth], 0) + 1
    return sorted(found.items())


class Manys(unittest.TestCase):
    def test_all_pairs_counted_one_by_one(self):
        for bounds, row, tree, ends in drawn_stretches(160, 200):
            for start, end in ends:
                stretch = (tree, start, end)
                told = (falls(stretch), rises(stretch), alike(stretch))
                self.assertTrue(same(told, plain_pairs(row[start:end])), (bounds, row, start, end))
            self.assertTrue(same(tree, plain_tree(bounds, row)))

    def test_together_they_are_all_pairs(self):
        for bounds, row, tree, ends in drawn_stretches(161, 200):
            for start, end in ends:
                stretch = (tree, start, end)
                many = end - start
                self.assertEqual(2 * (falls(stretch) + rises(stretch) + alike(stretch)), many * (many - 1))

    def test_turned_about_the_falling_ones_rise(self):
        for bounds, row, tree, ends in drawn_stretches(162, 200):
            about = turned(tree)
            for start, end in ends:
                stretch = (tree, start, end)
                other = (about, len(row) - end, len(row) - start)
                self.assertEqual(
                    (falls(stretch), rises(stretch), alike(stretch)), (rises(other), falls(other), alike(other)),
                    (bounds, row, start, end),
                )

    def test_empty_stretches_and_those_of_one(self):
        for bounds, row, tree, ends in drawn_stretches(163, 100):
            for start in range(len(row) + 1):
                for end in (start, start + 1):
                    if end <= len(row):
                        stretch = (tree, start, end)
                        self.assertTrue(same([falls(stretch), rises(stretch), alike(stretch)], [0, 0, 0]))
                        self.assertTrue(same(falls_by_ways(stretch), []))
        self.assertTrue(same([falls((None, 0, 0)), rises((None, 0, 0)), alike((None, 0, 0))], [0, 0, 0]))

    def test_one_worth_alone(self):
        for low in (0, -7, 10 ** 40 - 1, 1 - 10 ** 40):
            tree = plain_tree((low, 0), [low] * 9)
            for start in range(10):
                for end in range(start, 10):
                    many = end - start
                    stretch = (tree, start, end)
                    self.assertEqual((falls(stretch), rises(stretch)), (0, 0))
                    self.assertEqual(alike(stretch), many * (many - 1) // 2)

    def test_written_out(self):
        tree = plain_tree((0, 2), [3, 1, 2, 1, 0])
        self.assertEqual((falls((tree, 0, 5)), rises((tree, 0, 5)), alike((tree, 0, 5))), (8, 1, 1))
        self.assertEqual((falls((tree, 1, 4)), rises((tree, 1, 4)), alike((tree, 1, 4))), (1, 1, 1))

    def test_a_thousand_numbers(self):
        bounds = (-(10 ** 39), 40)
        row = [bounds[0] + number * 10 ** 9 for number in range(1000)]
        tree = plain_tree(bounds, row)
        self.assertEqual((falls((tree, 0, 1000)), rises((tree, 0, 1000)), alike((tree, 0, 1000))), (0, 499500, 0))
        about = turned(tree)
        self.assertEqual((falls((about, 0, 1000)), rises((about, 0, 1000)), alike((about, 0, 1000))), (499500, 0, 0))
        self.assertEqual(falls((about, 1, 999)), 998 * 997 // 2)


class ByWays(unittest.TestCase):
    def test_each_pair_that_falls(self):
        for bounds, row, tree, ends in drawn_stretches(164, 150):
            for start, end in ends:
                told = falls_by_ways((tree, start, end))
                self.assertTrue(same(told, plain_falls_by_ways(bounds, row[start:end])), (bounds, row, start, end))

    def test_added_they_are_the_falls(self):
        for bounds, row, tree, ends in drawn_stretches(165, 150):
            for start, end in ends:
                told = falls_by_ways((tree, start, end))
                self.assertEqual(sum(many for way, many in told), falls((tree, start, end)))
                self.assertEqual(told, sorted(told))
                self.assertTrue(all(many > 0 and len(way) < bounds[1] for way, many in told))
                self.assertEqual(len(told), len({way for way, many in told}))

    def test_as_often_as_the_marks_are_crossed_there(self):
        for bounds, row, tree, ends in drawn_stretches(166, 100):
            for start, end in ends:
                for way, many in falls_by_ways((tree, start, end)):
                    part, first, last = led([(tree, start, end)], way)[0]
                    self.assertEqual(crossed(part[1], first, last), many)

    def test_both_numbers_lie_there_in_both_halves(self):
        for bounds, row, tree, ends in drawn_stretches(167, 60):
            for start, end in ends:
                numbers = row[start:end]
                for way, many in falls_by_ways((tree, start, end)):
                    inner = [numbers[place] for place in places_at(bounds, numbers, way)]
                    uppers = [lies_at(bounds, way + (1,), number) for number in inner]
                    crossing = [
                        upper and not uppers[other]
                        for place, upper in enumerate(uppers) for other in range(place + 1, len(inner))
                    ]
                    self.assertEqual(sum(crossing), many)

    def test_levels_none(self):
        for many in range(6):
            self.assertEqual(falls_by_ways((plain_tree((4, 0), [4] * many), 0, many)), [])

    def test_written_out(self):
        tree = plain_tree((0, 2), [3, 1, 2, 1, 0])
        self.assertTrue(same(falls_by_ways((tree, 0, 5)), [((), 5), ((0,), 2), ((1,), 1)]))
        self.assertTrue(same(falls_by_ways((tree, 1, 5)), [((), 2), ((0,), 2)]))
        self.assertTrue(same(falls_by_ways((tree, 3, 5)), [((0,), 1)]))
        self.assertTrue(same(falls_by_ways((tree, 1, 3)), []))

    def test_the_told_list_is_the_askers_own(self):
        tree = plain_tree((0, 2), [3, 1, 2, 1, 0])
        told = falls_by_ways((tree, 0, 5))
        told.clear()
        self.assertEqual(falls_by_ways((tree, 0, 5)), [((), 5), ((0,), 2), ((1,), 1)])


if __name__ == "__main__":
    unittest.main()
