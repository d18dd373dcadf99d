"""Points 11 and 12: the k-th thing, the number of a thing, how many below and between."""

import unittest

from drawn import FAR, drawn_cases, gathered, plain_tree, refused, same, some_numbers, some_of
from manyleast.asks import below, between, nth_least, rank_of
from manyleast.errors import NoSuch


class NthLeast(unittest.TestCase):
    def test_each_k(self):
        for dice, bounds, rows, spots, gathering, things in drawn_cases(60, 120):
            chosen = enumerate(things) if len(things) < 100 else some_of(dice, things, 40)
            for k, thing in chosen:
                self.assertTrue(same(nth_least(bounds, gathering, k), thing), (bounds, rows, spots, k))
            self.assertTrue(same(gathering, gathered(bounds, rows, spots)))

    def test_no_such_k(self):
        for dice, bounds, rows, spots, gathering, things in drawn_cases(61, 120):
            many = len(things)
            for k in (-1, -2, -many - 1, -FAR, many, many + 1, many + 1000, FAR):
                refused(self, NoSuch, nth_least, bounds, gathering, k)
            self.assertTrue(same(gathering, gathered(bounds, rows, spots)))

    def test_nothing_in_it(self):
        tree = plain_tree((0, 2), [3, 1])
        for gathering in ([(None, 0, 0)], [(tree, 1, 1), (None, 0, 0)], [(tree, 2, 2)] * 8):
            for k in (0, 1, -1):
                refused(self, NoSuch, nth_least, (0, 2), gathering, k)

    def test_by_worth_then_stretch_then_place(self):
        one = plain_tree((0, 2), [3, 1, 3, 0])
        other = plain_tree((0, 2), [1, 3])
        gathering = [(one, 0, 3), (other, 0, 2), (one, 2, 3)]
        told = [nth_least((0, 2), gathering, k) for k in range(6)]
        self.assertEqual(told, [(1, 0, 1), (1, 1, 0), (3, 0, 0), (3, 0, 2), (3, 1, 1), (3, 2, 2)])


class RankOf(unittest.TestCase):
    def test_each_thing(self):
        for dice, bounds, rows, spots, gathering, things in drawn_cases(62, 120):
            chosen = enumerate(things) if len(things) < 100 else some_of(dice, things, 40)
            for k, thing in chosen:
                self.assertTrue(same(rank_of(bounds, gathering, thing[1], thing[2]), k), (bounds, rows, spots, k))
            self.assertTrue(same(gathering, gathered(bounds, rows, spots)))

    def test_no_such_place_in_the_stretch(self):
        for dice, bounds, rows, spots, gathering, things in drawn_cases(63, 120):
            for j, (number, start, end) in enumerate(spots):
                length = len(rows[number])
                places = [start - 1, 0, start // 2, end, end + 1, length - 1, length, -1, -end, FAR, -FAR]
                for place in places:
                    if not start <= place < end:
                        refused(self, NoSuch, rank_of, bounds, gathering, j, place)
            self.assertTrue(same(gathering, gathered(bounds, rows, spots)))

    def test_no_such_stretch(self):
        for dice, bounds, rows, spots, gathering, things in drawn_cases(64, 60):
            for j in (-1, -len(spots), len(spots), len(spots) + 1, 8, FAR, -FAR):
                if not 0 <= j < len(spots):
                    for place in (0, spots[0][1], spots[-1][1]):
                        refused(self, NoSuch, rank_of, bounds, gathering, j, place)

    def test_written_out(self):
        tree = plain_tree((0, 2), [3, 1, 3])
        gathering = [(tree, 1, 3), (tree, 0, 3)]
        self.assertEqual([rank_of((0, 2), gathering, 0, place) for place in (1, 2)], [0, 2])
        self.assertEqual([rank_of((0, 2), gathering, 1, place) for place in (0, 1, 2)], [3, 1, 4])
        refused(self, NoSuch, rank_of, (0, 2), gathering, 0, 0)
        refused(self, NoSuch, rank_of, (0, 2), gathering, 0, 3)


class Below(unittest.TestCase):
    def test_against_a_count(self):
        for dice, bounds, rows, spots, gathering, things in drawn_cases(65, 150):
            for number in some_numbers(dice, bounds, things):
                expected = len([thing for thing in things if thing[0] < number])
                self.assertTrue(same(below(bounds, gathering, number), expected), (bounds, rows, spots, number))
            self.assertTrue(same(gathering, gathered(bounds, rows, spots)))

    def test_beyond_the_bounds(self):
        tree = plain_tree((-2, 2), [1, -2, 1])
        gathering = [(tree, 0, 3), (tree, 2, 3)]
        told = [below((-2, 2), gathering, number) for number in (-FAR, -3, -2, -1, 0, 1, 2, 3, FAR)]
        self.assertEqual(told, [0, 0, 0, 1, 1, 1, 4, 4, 4])


class Between(unittest.TestCase):
    def test_against_a_count(self):
        for dice, bounds, rows, spots, gathering, things in drawn_cases(66, 100):
            numbers = some_numbers(dice, bounds, things)
            pairs = [(dice.choice(numbers), dice.choice(numbers)) for turn in range(25)]
            pairs += [(number, number) for number in numbers]
            for low, high in pairs:
                expected = len([thing for thing in things if low <= thing[0] <= high])
                self.assertTrue(same(between(bounds, gathering, low, high), expected), (bounds, rows, spots, low, high))
            self.assertTrue(same(gathering, gathered(bounds, rows, spots)))

    def test_low_above_high(self):
        for dice, bounds, rows, spots, gathering, things in drawn_cases(67, 60):
            for low in some_numbers(dice, bounds, things):
                for less in (1, 2, 2 ** bounds[1], 10 ** 49):
                    self.assertTrue(same(between(bounds, gathering, low, low - less), 0))

    def test_written_out(self):
        tree = plain_tree((-2, 2), [1, -2, 0, 1])
        gathering = [(tree, 0, 4)]
        self.assertEqual(between((-2, 2), gathering, -2, 1), 4)
        self.assertEqual(between((-2, 2), gathering, 0, 0), 1)
        self.assertEqual(between((-2, 2), gathering, 1, FAR), 2)
        self.assertEqual(between((-2, 2), gathering, -FAR, -2), 1)
        self.assertEqual(between((-2, 2), gathering, 1, 0), 0)


if __name__ == "__main__":
    unittest.main()
