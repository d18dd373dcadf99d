"""Point 6: marks ahead of a place, places by number, crossed pairs."""

import random
import unittest

from manyleast.errors import LeastError, NoSuch
from manyleast.marks import ahead, crossed, place_of

LENGTHS = (0, 1, 2, 3, 7, 40, 301, 1000)


def drawn(dice, length, weight):
    """So many marks; of ten about weight are ones."""
    return tuple(1 if dice.randrange(10) < weight else 0 for place in range(length))


def many_marks():
    dice = random.Random(6)
    for length in LENGTHS:
        for weight in (0, 1, 5, 9, 10):
            yield drawn(dice, length, weight)


def crossed_one_by_one(marks, start, end):
    pairs = 0
    for place in range(start, end):
        for greater in range(place + 1, end):
            if marks[place] == 1 and marks[greater] == 0:
                pairs += 1
    return pairs


class Ahead(unittest.TestCase):
    def test_each_place_and_the_end(self):
        for marks in many_marks():
            counts = [0, 0]
            for place in range(len(marks) + 1):
                for mark in (0, 1):
                    self.assertEqual(ahead(marks, mark, place), counts[mark])
                if place < len(marks):
                    counts[marks[place]] += 1

    def test_written_out(self):
        marks = (1, 0, 0, 1)
        self.assertEqual([ahead(marks, 0, place) for place in range(5)], [0, 0, 1, 2, 2])
        self.assertEqual([ahead(marks, 1, place) for place in range(5)], [0, 1, 1, 1, 2])

    def test_beyond_the_ends_nothing_is_refused(self):
        self.assertEqual(ahead((1, 1, 0), 1, -1), 0)
        self.assertEqual(ahead((1, 1, 0), 1, -(10 ** 49)), 0)
        self.assertEqual(ahead((1, 1, 0), 1, 4), 2)
        self.assertEqual(ahead((1, 1, 0), 1, 10 ** 49), 2)


class PlaceOf(unittest.TestCase):
    def test_each_mark_by_its_number(self):
        for marks in many_marks():
            for mark in (0, 1):
                places = [place for place, other in enumerate(marks) if other == mark]
                told = [place_of(marks, mark, number) for number in range(len(places))]
                self.assertEqual(told, places)

    def test_no_such(self):
        for marks in many_marks():
            for mark in (0, 1):
                many = marks.count(mark)
                for number in (many, many + 1, 10 ** 49, -1, -2, -many - 1, -(10 ** 49)):
                    with self.assertRaises(NoSuch) as taken:
                        place_of(marks, mark, number)
                    self.assertIsInstance(taken.exception, LeastError)

    def test_place_and_number_fit(self):
        marks = drawn(random.Random(7), 200, 5)
        for place, mark in enumerate(marks):
            self.assertEqual(place_of(marks, mark, ahead(marks, mark, place)), place)


def some_stretches(dice, length):
    stretches = [(0, 0), (length, length), (0, length), (length // 2, length // 2)]
    for place in range(min(length, 10)):
        stretches.append((place, place + 1))
    for turn in range(8):
        start = dice.randint(0, length)
        end = dice.randint(start, min(length, start + 200))
        stretches.append((start, end))
    return stretches


class Crossed(unittest.TestCase):
    def test_against_all_pairs(self):
        dice = random.Random(8)
        for marks in many_marks():
            for start, end in some_stretches(dice, len(marks)):
                self.assertEqual(crossed(marks, start, end), crossed_one_by_one(marks, start, end))

    def test_all_stretches_of_short_marks(self):
        dice = random.Random(9)
        for length in range(9):
            for weight in (1, 5, 9):
                marks = drawn(dice, length, weight)
                for start in range(length + 1):
                    for end in range(start, length + 1):
                        self.assertEqual(crossed(marks, start, end), crossed_one_by_one(marks, start, end))

    def test_written_out(self):
        self.assertEqual(crossed((), 0, 0), 0)
        self.assertEqual(crossed((1, 0), 0, 2), 1)
        self.assertEqual(crossed((0, 1), 0, 2), 0)
        self.assertEqual(crossed((1, 0, 1, 0), 0, 4), 3)
        self.assertEqual(crossed((1, 0, 1, 0), 1, 4), 1)
        self.assertEqual(crossed((1,) * 500 + (0,) * 500, 0, 1000), 250000)

    def test_parted(self):
        dice = random.Random(10)
        for marks in many_marks():
            for start, end in some_stretches(dice, len(marks)):
                for turn in range(3):
                    middle = dice.randint(start, end)
                    ones = marks[start:middle].count(1)
                    noughts = marks[middle:end].count(0)
                    halves = crossed(marks, start, middle) + crossed(marks, middle, end)
                    self.assertEqual(crossed(marks, start, end), halves + ones * noughts)

    def test_beyond_the_ends_nothing_is_refused(self):
        self.assertEqual(crossed((1, 0, 1, 0), -2, 6), 3)
        self.assertEqual(crossed((1, 0, 1, 0), 3, 1), 0)


class NothingIsChanged(unittest.TestCase):
    def test_asked_again(self):
        marks = (1, 0, 1, 1, 0)
        for turn in range(2):
            self.assertEqual(ahead(marks, 1, 4), 3)
            self.assertEqual(place_of(marks, 0, 1), 4)
            self.assertEqual(crossed(marks, 0, 5), 4)
        self.assertEqual(marks, (1, 0, 1, 1, 0))


if __name__ == "__main__":
    unittest.main()
