"""Points 4 and 5: bounds, where numbers lie, ways and their spans."""

import copy
import itertools
import random
import unittest

from drawn import strange
from manyleast.bounds import is_bounds, is_way, span_of, top_of, way_of, where
from manyleast.errors import Beyond, LeastError

FORTY = 10 ** 40 - 1
LOWS = (0, 1, -1, 9, -9, 12345, -12345, 10 ** 39, -(10 ** 39), FORTY, -FORTY)


class IsBounds(unittest.TestCase):
    def test_true(self):
        lows = list(LOWS)
        for figures in range(1, 41):
            for number in (10 ** figures - 1, 10 ** (figures - 1)):
                lows.extend([number, -number])
        for low in lows:
            for levels in (0, 1, 2, 20, 39, 40):
                self.assertIs(is_bounds((low, levels)), True, (low, levels))
        for levels in range(41):
            self.assertIs(is_bounds((-3, levels)), True, levels)

    def test_levels_beyond(self):
        for low in (0, -5, FORTY):
            for levels in (-1, -2, -40, 41, 42, 100, 10 ** 49, -(10 ** 49)):
                self.assertIs(is_bounds((low, levels)), False, (low, levels))

    def test_lows_beyond(self):
        for low in (10 ** 40, 10 ** 40 + 1, 10 ** 41 - 1, 10 ** 49, 10 ** 50 - 1):
            for levels in (0, 7, 40):
                self.assertIs(is_bounds((low, levels)), False)
                self.assertIs(is_bounds((-low, levels)), False)

    def test_other_things_in_either_place(self):
        for thing in strange() + [(), (0,), (0, 3)]:
            self.assertIs(is_bounds((thing, 3)), False)
            self.assertIs(is_bounds((0, thing)), False)
            self.assertIs(is_bounds((thing, thing)), False)

    def test_too_short_and_too_long(self):
        for thing in ((), (0,), (3,), (0, 3, 0), (0, 3, None), (0, 3, 0, 3), (0,) * 20000):
            self.assertIs(is_bounds(thing), False)

    def test_no_tuple(self):
        for thing in strange() + [0, 1, 40, -1, 10 ** 49]:
            self.assertIs(is_bounds(thing), False)

    def test_within_a_tuple(self):
        self.assertIs(is_bounds(((0, 3),)), False)
        self.assertIs(is_bounds(((0, 3), (0, 3))), False)
        self.assertIs(is_bounds((((0, 3),), 3)), False)


class Top(unittest.TestCase):
    def test_top(self):
        for low in LOWS:
            for levels in range(41):
                self.assertEqual(top_of((low, levels)), low + 2 ** levels - 1)

    def test_written_out(self):
        self.assertEqual(top_of((5, 0)), 5)
        self.assertEqual(top_of((-4, 3)), 3)
        self.assertEqual(top_of((0, 40)), 1099511627775)


class Where(unittest.TestCase):
    def test_where(self):
        for low in LOWS:
            for levels in (0, 1, 2, 13, 39, 40):
                bounds = (low, levels)
                top = low + 2 ** levels - 1
                for number in (low, top, (low + top) // 2):
                    self.assertEqual(where(bounds, number), "within")
                for many in (1, 2, 1000, 2 ** levels, 10 ** 49):
                    self.assertEqual(where(bounds, low - many), "below")
                    self.assertEqual(where(bounds, top + many), "above")

    def test_each_number_around(self):
        told = [where((-2, 2), number) for number in range(-5, 5)]
        self.assertEqual(told, ["below"] * 3 + ["within"] * 4 + ["above"] * 3)


class IsWay(unittest.TestCase):
    def test_true(self):
        dice = random.Random(1)
        for levels in range(41):
            for length in range(levels + 1):
                way = tuple(dice.choice((0, 1)) for turn in range(length))
                for each in (way, (0,) * length, (1,) * length):
                    self.assertIs(is_way(levels, each), True)

    def test_longer(self):
        for levels in range(41):
            for more in (1, 2, 41, 20000 - levels):
                self.assertIs(is_way(levels, (0,) * (levels + more)), False)
                self.assertIs(is_way(levels, (1,) * (levels + more)), False)

    def test_one_thing_spoilt(self):
        spoilers = strange() + [2, -1, 3, 10 ** 49, -(10 ** 49), (), (0,), (1,)]
        for levels in (1, 2, 5, 40):
            for length in sorted({1, levels // 2 + 1, levels}):
                for place in sorted({0, length // 2, length - 1}):
                    for spoiler in spoilers:
                        way = [0, 1] * length
                        way = way[:length]
                        way[place] = spoiler
                        self.assertIs(is_way(levels, tuple(way)), False)

    def test_no_tuple(self):
        for levels in (0, 1, 3, 40):
            for thing in strange() + [0, 1, 2, -1, [0], [1], [0, 1], 10 ** 49]:
                self.assertIs(is_way(levels, thing), False)


class Span(unittest.TestCase):
    def test_empty_way(self):
        for low in LOWS:
            for levels in range(41):
                self.assertEqual(span_of((low, levels), ()), (low, low + 2 ** levels - 1))

    def test_all_ways_of_small_bounds(self):
        for levels in range(6):
            for length in range(levels + 1):
                size = 2 ** (levels - length)
                for k, way in enumerate(itertools.product((0, 1), repeat=length)):
                    expected = (-7 + k * size, -7 + (k + 1) * size - 1)
                    self.assertEqual(span_of((-7, levels), way), expected)

    def test_halves_side_by_side(self):
        dice = random.Random(2)
        for levels in range(1, 41):
            for length in range(levels):
                bounds = (dice.choice(LOWS), levels)
                way = tuple(dice.choice((0, 1)) for turn in range(length))
                whole = span_of(bounds, way)
                lower = span_of(bounds, way + (0,))
                upper = span_of(bounds, way + (1,))
                self.assertEqual((lower[0], upper[1]), whole)
                self.assertEqual(lower[1] + 1, upper[0])
                self.assertEqual(lower[1] - lower[0], upper[1] - upper[0])

    def test_kind(self):
        for way in ((), (1, 0), (1, 0, 1, 1)):
            span = span_of((3, 4), way)
            self.assertIs(type(span), tuple)
            self.assertEqual([type(end) for end in span], [int, int])


def some_within(bounds, dice):
    low = bounds[0]
    top = low + 2 ** bounds[1] - 1
    drawn = [dice.randint(low, top) for turn in range(10)]
    middle = (low + top) // 2
    return sorted(set(drawn + [low, top, middle, min(top, middle + 1)]))


class WayOf(unittest.TestCase):
    def test_full_way_and_its_span(self):
        dice = random.Random(3)
        for low in LOWS:
            for levels in range(41):
                bounds = (low, levels)
                for number in some_within(bounds, dice):
                    way = way_of(bounds, number)
                    self.assertIs(type(way), tuple)
                    self.assertEqual(len(way), levels)
                    for turn in way:
                        self.assertIs(type(turn), int)
                        self.assertIn(turn, (0, 1))
                    self.assertIs(is_way(levels, way), True)
                    self.assertEqual(span_of(bounds, way), (number, number))

    def test_lesser_number_lesser_way(self):
        dice = random.Random(4)
        for levels in range(1, 41):
            bounds = (dice.choice(LOWS), levels)
            ways = [way_of(bounds, number) for number in some_within(bounds, dice)]
            for one, other in zip(ways, ways[1:]):
                self.assertLess(one, other)

    def test_written_out(self):
        self.assertEqual(way_of((5, 0), 5), ())
        self.assertEqual(way_of((-4, 3), -4), (0, 0, 0))
        self.assertEqual(way_of((-4, 3), 1), (1, 0, 1))
        self.assertEqual(way_of((-4, 3), 3), (1, 1, 1))

    def test_beyond(self):
        for low in LOWS:
            for levels in (0, 1, 2, 13, 40):
                top = low + 2 ** levels - 1
                for many in (1, 2, 1000, 2 ** levels, 10 ** 49):
                    for number in (low - many, top + many):
                        with self.assertRaises(Beyond) as taken:
                            way_of((low, levels), number)
                        self.assertEqual(taken.exception.number, number)
                        self.assertIsInstance(taken.exception, LeastError)


class NothingIsChanged(unittest.TestCase):
    def test_things(self):
        inner = [0, [1, {"a": [2]}]]
        for make in (lambda: inner, lambda: (inner, 3), lambda: (0, inner), lambda: [0, 3]):
            thing = make()
            before = copy.deepcopy(thing)
            is_bounds(thing)
            is_way(3, thing)
            self.assertEqual(thing, before)

    def test_bounds_and_ways(self):
        bounds = (-4, 3)
        way = (1, 0)
        for turn in range(2):
            self.assertEqual(top_of(bounds), 3)
            self.assertEqual(where(bounds, 4), "above")
            self.assertEqual(span_of(bounds, way), (0, 1))
            self.assertEqual(way_of(bounds, 0), (1, 0, 0))
        self.assertEqual((bounds, way), ((-4, 3), (1, 0)))


if __name__ == "__main__":
    unittest.main()
