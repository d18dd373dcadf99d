"""Point 23: makes kept by bounds."""

import random
import unittest

from drawn import FAR, DOINGS, drawn_bounds, drawn_doing, drawn_doings, drawn_row, drawn_worth, plain_tree, refused
from drawn import flip_of, same, top
from manyleast.errors import Beyond, NoSuch, TooMany
from manyleast.makes import Makes


def makes_of(bounds, doings):
    makes = Makes(bounds)
    for doing in doings:
        doing.done(makes)
    return makes


def drawn_makes(seed, many, doings=8):
    """The dice, bounds, the makes of so many doings, and their plain rows."""
    dice = random.Random(seed)
    for turn in range(many):
        bounds = drawn_bounds(dice)
        told, rows = drawn_doings(dice, bounds, doings)
        yield dice, bounds, makes_of(bounds, told), rows


def whole(makes):
    """All that the makes tell."""
    numbers = range(makes.many())
    return [(makes.tree(make), makes.row(make), makes.came_of(make)) for make in numbers]


def no_makes(makes):
    return [-1, -2, -makes.many(), -makes.many() - 1, makes.many(), makes.many() + 1, makes.many() + 500, FAR, -FAR]


def beyond(bounds):
    return [bounds[0] - 1, top(bounds) + 1, bounds[0] - 10 ** 9, FAR, -FAR]


def long_makes(bounds, number, many):
    """Makes of which the last one has so many numbers, in rows of 100 joined."""
    makes = Makes(bounds)
    make = makes.of_row([number] * (many % 100))
    hundred = makes.of_row([number] * 100)
    for turn in range(many // 100):
        make = makes.joined(make, hundred)
    return makes, make


class Doings(unittest.TestCase):
    def test_drawn_doings_on_any_make(self):
        for seed in range(60):
            dice = random.Random(17000 + seed)
            bounds = drawn_bounds(dice)
            makes, rows, sources = Makes(bounds), [[]], [[]]
            for turn in range(dice.choice((6, 14, 20))):
                doing = drawn_doing(dice, bounds, rows)
                self.assertTrue(same(doing.done(makes), len(rows)), (bounds, doing.text()))
                rows.append(doing.row)
                sources.append(doing.sources)
                self.assertTrue(same(makes.many(), len(rows)))
                told = whole(makes)
                for make, row in enumerate(rows):
                    right = (plain_tree(bounds, row), row, sources[make])
                    self.assertTrue(same(told[make], right), (bounds, doing.text(), make))

    def test_every_doing_is_drawn(self):
        dice = random.Random(171)
        bounds = (-3, 4)
        words = {doing.word for turn in range(40) for doing in drawn_doings(dice, bounds, 12)[0]}
        self.assertEqual(words, set(DOINGS))

    def test_make_0(self):
        for bounds in ((0, 0), (-9, 40), (10 ** 40 - 1, 3), (1 - 10 ** 40, 1)):
            makes = Makes(bounds)
            self.assertTrue(same(makes.many(), 1))
            self.assertIsNone(makes.tree(0))
            self.assertTrue(same(makes.row(0), []))
            self.assertTrue(same(makes.came_of(0), []))

    def test_of_the_empty_row(self):
        makes = Makes((5, 2))
        self.assertEqual([makes.turned(0), makes.flipped(0), makes.cut_out(0, 0, 0), makes.joined(0, 0)], [1, 2, 3, 4])
        self.assertEqual(makes.of_row([]), 5)
        self.assertEqual([makes.row(make) for make in range(6)], [[]] * 6)
        self.assertEqual([makes.came_of(make) for make in range(6)], [[], [0], [0], [0], [0, 0], []])
        self.assertEqual(makes.put_in(4, 0, 7), 6)
        self.assertEqual((makes.row(6), makes.row(4), makes.row(0)), ([7], [], []))

    def test_one_named_twice_stands_twice(self):
        makes = Makes((0, 3))
        makes.of_row([1, 2])
        self.assertEqual(makes.joined(1, 1), 2)
        self.assertEqual((makes.came_of(2), makes.row(2)), ([1, 1], [1, 2, 1, 2]))
        self.assertEqual(makes.joined(2, 1), 3)
        self.assertEqual(makes.joined(1, 2), 4)
        self.assertEqual((makes.came_of(3), makes.came_of(4)), ([2, 1], [1, 2]))

    def test_written_out(self):
        makes = Makes((-4, 3))
        self.assertEqual(makes.of_row([3, -4, 0]), 1)
        self.assertEqual(makes.put_in(1, 3, 2), 2)
        self.assertEqual(makes.taken_out(1, 0), 3)
        self.assertEqual(makes.set_at(2, 1, -1), 4)
        self.assertEqual(makes.cut_out(2, 1, 3), 5)
        self.assertEqual(makes.turned(1), 6)
        self.assertEqual(makes.flipped(1), 7)
        rows = [[], [3, -4, 0], [3, -4, 0, 2], [-4, 0], [3, -1, 0, 2], [-4, 0], [0, -4, 3], [-4, 3, -1]]
        self.assertEqual([makes.row(make) for make in range(8)], rows)
        self.assertEqual([makes.came_of(make) for make in range(8)], [[], [], [1], [1], [2], [2], [1], [1]])

    def test_two_hundred_makes(self):
        dice = random.Random(172)
        bounds = (-50, 7)
        told, rows = drawn_doings(dice, bounds, 199)
        makes = makes_of(bounds, told)
        self.assertEqual(makes.many(), 200)
        for make, row in enumerate(rows):
            self.assertEqual(makes.row(make), row)
            self.assertEqual(makes.tree(make), plain_tree(bounds, row))

    def test_two_of_the_same_bounds_keep_apart(self):
        one, other = Makes((0, 3)), Makes((0, 3))
        one.of_row([1])
        self.assertEqual((one.many(), other.many()), (2, 1))
        self.assertEqual(other.of_row([2]), 1)
        self.assertEqual((one.row(1), other.row(1)), ([1], [2]))


class Refused(unittest.TestCase):
    def still(self, makes, before, kind, call, *handed):
        """The refusal, behind which all makes are as they were."""
        told = refused(self, kind, call, *handed)
        self.assertEqual(makes.many(), len(before))
        self.assertTrue(same(whole(makes), before))
        return told

    def test_a_make_that_there_is_not(self):
        for dice, bounds, makes, rows in drawn_makes(173, 9):
            before = whole(makes)
            for make in no_makes(makes):
                within, other = drawn_worth(dice, bounds), dice.randrange(len(rows))
                for place in (0, -1, FAR):
                    for number in (within, bounds[0] - 1, FAR):
                        self.still(makes, before, NoSuch, makes.put_in, make, place, number)
                        self.still(makes, before, NoSuch, makes.set_at, make, place, number)
                    self.still(makes, before, NoSuch, makes.taken_out, make, place)
                    self.still(makes, before, NoSuch, makes.cut_out, make, place, 0)
                for call in (makes.turned, makes.flipped, makes.tree, makes.row, makes.came_of):
                    self.still(makes, before, NoSuch, call, make)
                for one, two in ((make, other), (other, make), (make, make), (make, 0), (0, make)):
                    self.still(makes, before, NoSuch, makes.joined, one, two)

    def test_a_make_that_there_is_not_comes_ahead_of_too_many(self):
        makes, make = long_makes((0, 1), 1, 1000)
        before = whole(makes)
        for other in no_makes(makes):
            self.still(makes, before, NoSuch, makes.joined, make, other)
            self.still(makes, before, NoSuch, makes.joined, other, make)

    def test_a_place_that_there_is_not(self):
        for dice, bounds, makes, rows in drawn_makes(174, 12):
            before = whole(makes)
            for make, row in enumerate(rows):
                for place in (-1, -len(row) - 1, len(row) + 1, FAR, -FAR):
                    for number in (drawn_worth(dice, bounds), top(bounds) + 1):
                        self.still(makes, before, NoSuch, makes.put_in, make, place, number)
                for place in (-1, -len(row) - 1, len(row), len(row) + 1, FAR, -FAR):
                    for number in (drawn_worth(dice, bounds), bounds[0] - 1):
                        self.still(makes, before, NoSuch, makes.set_at, make, place, number)
                    self.still(makes, before, NoSuch, makes.taken_out, make, place)

    def test_a_stretch_that_there_is_not(self):
        for dice, bounds, makes, rows in drawn_makes(175, 12):
            before = whole(makes)
            for make, row in enumerate(rows):
                many = len(row)
                wrong = [(-1, many), (0, many + 1), (many, many + 1), (many + 1, many + 1), (-2, -1), (-1, -1), (1, 0)]
                wrong += [(many, many - 1), (0, FAR), (-FAR, 0), (FAR, FAR), (FAR, -FAR), (many + 1, many)]
                for start, end in wrong:
                    self.still(makes, before, NoSuch, makes.cut_out, make, start, end)

    def test_a_number_beyond(self):
        for dice, bounds, makes, rows in drawn_makes(176, 25):
            before = whole(makes)
            for make, row in enumerate(rows):
                for number in beyond(bounds):
                    place = dice.choice((0, len(row)))
                    told = self.still(makes, before, Beyond, makes.put_in, make, place, number)
                    self.assertTrue(same(told.number, number))
                    if row:
                        place = dice.choice((0, len(row) - 1))
                        told = self.still(makes, before, Beyond, makes.set_at, make, place, number)
                        self.assertTrue(same(told.number, number))

    def test_a_row_with_numbers_beyond(self):
        for dice, bounds, makes, rows in drawn_makes(177, 25):
            before = whole(makes)
            for first in beyond(bounds):
                row = drawn_row(dice, bounds, dice.randint(0, 5)) + [first]
                row += drawn_row(dice, bounds, dice.randint(0, 3)) + [dice.choice(beyond(bounds))]
                told = self.still(makes, before, Beyond, makes.of_row, row)
                self.assertTrue(same(told.number, first))


class AThousand(unittest.TestCase):
    def test_put_in(self):
        for bounds in ((-3, 0), (-3, 4), (10 ** 30, 40)):
            makes, make = long_makes(bounds, top(bounds), 999)
            full = makes.put_in(make, 500, bounds[0])
            self.assertEqual(makes.row(full), [top(bounds)] * 500 + [bounds[0]] + [top(bounds)] * 499)
            before = whole(makes)
            for place in (0, 1, 500, 999, 1000):
                refused(self, TooMany, makes.put_in, full, place, bounds[0])
                told = refused(self, Beyond, makes.put_in, full, place, top(bounds) + 1)
                self.assertEqual(told.number, top(bounds) + 1)
            for place in (-1, 1001, FAR):
                refused(self, NoSuch, makes.put_in, full, place, bounds[0])
                refused(self, NoSuch, makes.put_in, full, place, bounds[0] - 1)
            self.assertTrue(same(whole(makes), before))

    def test_joined(self):
        makes, make = long_makes((0, 2), 3, 600)
        other = makes.cut_out(make, 0, 400)
        one = makes.of_row([0])
        full = makes.joined(make, other)
        self.assertEqual((makes.row(full), makes.came_of(full)), ([3] * 1000, [make, other]))
        less = makes.taken_out(full, 999)
        before = whole(makes)
        for first, second in ((full, one), (one, full), (full, full), (make, make), (make, full), (full, other)):
            refused(self, TooMany, makes.joined, first, second)
            self.assertEqual(makes.many(), len(before))
        self.assertTrue(same(whole(makes), before))
        self.assertEqual(makes.row(makes.joined(full, 0)), [3] * 1000)
        self.assertEqual(makes.row(makes.joined(0, full)), [3] * 1000)
        self.assertEqual(makes.row(makes.joined(less, one)), [3] * 999 + [0])
        self.assertEqual(makes.row(makes.joined(one, less)), [0] + [3] * 999)

    def test_all_else_is_done_with_a_thousand(self):
        makes, full = long_makes((0, 2), 3, 1000)
        changed = makes.set_at(full, 1, 0)
        row = [3, 0] + [3] * 998
        self.assertEqual(makes.row(changed), row)
        self.assertEqual(makes.row(makes.turned(changed)), row[::-1])
        self.assertEqual(makes.row(makes.flipped(changed)), flip_of((0, 2), row))
        self.assertEqual(makes.row(makes.cut_out(changed, 0, 1000)), row)
        less = makes.taken_out(changed, 0)
        self.assertEqual(makes.row(less), row[1:])
        self.assertEqual(makes.row(makes.put_in(less, 999, 2)), row[1:] + [2])


class Own(unittest.TestCase):
    def test_a_row_changed_afterwards(self):
        makes = Makes((0, 3))
        row = [1, 5, 2]
        self.assertEqual(makes.of_row(row), 1)
        self.assertEqual(row, [1, 5, 2])
        row[0] = 7
        row.append(99)
        self.assertEqual(makes.row(1), [1, 5, 2])
        self.assertEqual(makes.tree(1), plain_tree((0, 3), [1, 5, 2]))

    def test_told_lists_changed_behind(self):
        for dice, bounds, makes, rows in drawn_makes(178, 20):
            before = whole(makes)
            for make in range(makes.many()):
                makes.row(make).append(1)
                makes.row(make).clear()
                makes.came_of(make).append(0)
                makes.came_of(make).clear()
            self.assertTrue(same(whole(makes), before))

    def test_told_lists_stay_whatever_is_made(self):
        for dice, bounds, makes, rows in drawn_makes(179, 20):
            before = whole(makes)
            copied = [(tree, list(row), list(sources)) for tree, row, sources in before]
            for turn in range(10):
                doing = drawn_doing(dice, bounds, rows)
                doing.done(makes)
                rows.append(doing.row)
            self.assertTrue(same(before, copied))
            self.assertTrue(same(whole(makes)[:len(before)], copied))


if __name__ == "__main__":
    unittest.main()
