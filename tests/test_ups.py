"""Point 13: next up, next down, the sum of the least."""

import unittest

from drawn import FAR, drawn_cases, gathered, plain_tree, plain_up, plain_worths, refused, same, some_numbers, some_of
from manyleast.asks import nth_least
from manyleast.errors import NoSuch
from manyleast.ups import next_down, next_up, sum_of_least


def plain_down(things, number):
    lesser = [counted for counted in plain_worths(things) if counted[0] < number]
    return lesser[-1] if lesser else None


def walked(step, bounds, gathering, number):
    """All that is come to from the number on, step by step."""
    told = []
    counted = step(bounds, gathering, number)
    while counted is not None:
        told.append(counted)
        counted = step(bounds, gathering, counted[0])
    return told


class NextUp(unittest.TestCase):
    def test_against_a_going_through(self):
        for dice, bounds, rows, spots, gathering, things in drawn_cases(70, 150):
            for number in some_numbers(dice, bounds, things):
                told = next_up(bounds, gathering, number)
                self.assertTrue(same(told, plain_up(things, number)), (bounds, rows, spots, number))
            self.assertTrue(same(gathering, gathered(bounds, rows, spots)))

    def test_going_on_comes_to_each_worth_once(self):
        for dice, bounds, rows, spots, gathering, things in drawn_cases(71, 60):
            for number in (-FAR, bounds[0] - 1):
                told = walked(next_up, bounds, gathering, number)
                self.assertTrue(same(told, plain_worths(things)), (bounds, rows, spots))
                self.assertEqual(sum(many for worth, many in told), len(things))

    def test_written_out(self):
        tree = plain_tree((-2, 3), [3, -2, 3, 5])
        gathering = [(tree, 0, 4), (tree, 2, 3)]
        told = [next_up((-2, 3), gathering, number) for number in (-FAR, -3, -2, 2, 3, 4, 5, 6, FAR)]
        up = [(-2, 1), (-2, 1), (3, 3), (3, 3), (5, 1), (5, 1), None, None, None]
        self.assertTrue(same(told, up))


class NextDown(unittest.TestCase):
    def test_against_a_going_through(self):
        for dice, bounds, rows, spots, gathering, things in drawn_cases(72, 150):
            for number in some_numbers(dice, bounds, things):
                told = next_down(bounds, gathering, number)
                self.assertTrue(same(told, plain_down(things, number)), (bounds, rows, spots, number))
            self.assertTrue(same(gathering, gathered(bounds, rows, spots)))

    def test_going_back_comes_to_the_same_ones_turned_about(self):
        for dice, bounds, rows, spots, gathering, things in drawn_cases(73, 60):
            up = walked(next_up, bounds, gathering, -FAR)
            self.assertTrue(same(walked(next_down, bounds, gathering, FAR), up[::-1]), (bounds, rows, spots))

    def test_written_out(self):
        tree = plain_tree((-2, 3), [3, -2, 3, 5])
        gathering = [(tree, 0, 4), (tree, 2, 3)]
        told = [next_down((-2, 3), gathering, number) for number in (-FAR, -3, -2, -1, 3, 4, 5, 6, FAR)]
        down = [None, None, None, (-2, 1), (-2, 1), (3, 3), (3, 3), (5, 1), (5, 1)]
        self.assertTrue(same(told, down))


class BothNexts(unittest.TestCase):
    def test_nothing_in_it(self):
        tree = plain_tree((0, 2), [3, 1])
        for gathering in ([(None, 0, 0)], [(tree, 1, 1), (None, 0, 0)], [(tree, 2, 2)] * 8):
            for number in (-FAR, -1, 0, 1, 2, 3, 4, FAR):
                self.assertIsNone(next_up((0, 2), gathering, number))
                self.assertIsNone(next_down((0, 2), gathering, number))

    def test_one_worth_alone(self):
        tree = plain_tree((7, 0), [7, 7, 7])
        for bounds, gathering in (((7, 0), [(tree, 1, 3)]), ((7, 40), [(plain_tree((7, 40), [7, 7]), 0, 2)])):
            self.assertTrue(same([next_up(bounds, gathering, number) for number in (6, 7, 8)], [(7, 2), None, None]))
            self.assertTrue(same([next_down(bounds, gathering, number) for number in (6, 7, 8)], [None, None, (7, 2)]))

    def test_the_same_stretches_twice(self):
        for dice, bounds, rows, spots, gathering, things in drawn_cases(74, 100):
            once = gathering[:4]
            for number in some_numbers(dice, bounds, things):
                for step in (next_up, next_down):
                    told = step(bounds, once, number)
                    twice = None if told is None else (told[0], 2 * told[1])
                    self.assertTrue(same(step(bounds, once + once, number), twice), (bounds, rows, spots, number))


class SumOfLeast(unittest.TestCase):
    def test_adding_one_by_one(self):
        for dice, bounds, rows, spots, gathering, things in drawn_cases(75, 120):
            sums = [0]
            for thing in things:
                sums.append(sums[-1] + thing[0])
            chosen = enumerate(sums) if len(sums) < 80 else some_of(dice, sums, 25)
            for k, added in chosen:
                self.assertTrue(same(sum_of_least(bounds, gathering, k), added), (bounds, rows, spots, k))
            self.assertTrue(same(gathering, gathered(bounds, rows, spots)))

    def test_less_the_one_ahead_it_is_the_worth(self):
        for dice, bounds, rows, spots, gathering, things in drawn_cases(76, 60):
            for k, thing in some_of(dice, things, 12):
                more = sum_of_least(bounds, gathering, k + 1) - sum_of_least(bounds, gathering, k)
                self.assertEqual(more, nth_least(bounds, gathering, k)[0])
                self.assertEqual(more, thing[0])

    def test_no_such_k(self):
        for dice, bounds, rows, spots, gathering, things in drawn_cases(77, 120):
            many = len(things)
            for k in (-1, -2, -many - 1, -FAR, many + 1, many + 2, many + 1000, FAR):
                refused(self, NoSuch, sum_of_least, bounds, gathering, k)
            self.assertTrue(same(gathering, gathered(bounds, rows, spots)))

    def test_nothing_in_it(self):
        tree = plain_tree((5, 2), [8, 6])
        for gathering in ([(None, 0, 0)], [(tree, 1, 1), (None, 0, 0)], [(tree, 2, 2)] * 8):
            self.assertTrue(same(sum_of_least((5, 2), gathering, 0), 0))
            for k in (1, 2, -1):
                refused(self, NoSuch, sum_of_least, (5, 2), gathering, k)

    def test_written_out(self):
        tree = plain_tree((-2, 3), [3, -2, 3, 5])
        gathering = [(tree, 0, 4), (tree, 2, 3)]
        self.assertTrue(same([sum_of_least((-2, 3), gathering, k) for k in range(6)], [0, -2, 1, 4, 7, 12]))
        tree = plain_tree((-4, 0), [-4, -4])
        self.assertTrue(same([sum_of_least((-4, 0), [(tree, 0, 2)] * 2, k) for k in range(5)], [0, -4, -8, -12, -16]))


class Askers(unittest.TestCase):
    def test_what_is_done_later_to_a_gathering_changes_nothing_told(self):
        bounds = (0, 3)
        gathering = [(plain_tree(bounds, [4, 1, 4]), 0, 3)]
        told = [next_up(bounds, gathering, 1), next_down(bounds, gathering, 7), sum_of_least(bounds, gathering, 2)]
        gathering.append((plain_tree(bounds, [4, 2]), 0, 2))
        self.assertTrue(same(told, [(4, 2), (4, 2), 5]))
        told = [next_up(bounds, gathering, 1), next_down(bounds, gathering, 7), sum_of_least(bounds, gathering, 2)]
        self.assertTrue(same(told, [(2, 1), (4, 3), 3]))


if __name__ == "__main__":
    unittest.main()
