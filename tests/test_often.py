"""Points 14 and 15: the worths of a gathering, what comes most, what comes often."""

import unittest

from drawn import FAR, drawn_cases, gathered, plain_most, plain_often, plain_tree, plain_worths, same, some_parts
from manyleast.often import most, often, worths_in


def twice(counted):
    return [(worth, 2 * many) for worth, many in counted]


class WorthsIn(unittest.TestCase):
    def test_each_worth_once(self):
        for dice, bounds, rows, spots, gathering, things in drawn_cases(80, 150):
            told = worths_in(bounds, gathering)
            self.assertTrue(same(told, plain_worths(things)), (bounds, rows, spots))
            self.assertEqual(sum(many for worth, many in told), len(things))
            self.assertTrue(same(gathering, gathered(bounds, rows, spots)))

    def test_nothing_in_it(self):
        tree = plain_tree((0, 2), [3, 1])
        for gathering in ([(None, 0, 0)], [(tree, 1, 1), (None, 0, 0)], [(tree, 2, 2)] * 8):
            told = worths_in((0, 2), gathering)
            self.assertTrue(same(told, []))
            told.append("x")
            self.assertTrue(same(worths_in((0, 2), gathering), []))

    def test_what_is_told_is_the_askers(self):
        for dice, bounds, rows, spots, gathering, things in drawn_cases(81, 60):
            told = worths_in(bounds, gathering)
            told.reverse()
            told.append("x")
            self.assertTrue(same(worths_in(bounds, gathering), plain_worths(things)))
            told = worths_in(bounds, gathering)
            gathering.clear()
            self.assertTrue(same(told, plain_worths(things)))

    def test_the_same_stretches_twice(self):
        for dice, bounds, rows, spots, gathering, things in drawn_cases(82, 100):
            once = gathering[:4]
            self.assertTrue(same(worths_in(bounds, once + once), twice(worths_in(bounds, once))))

    def test_written_out(self):
        tree = plain_tree((-2, 3), [3, -2, 3, 5])
        told = worths_in((-2, 3), [(tree, 0, 4), (tree, 2, 3)])
        self.assertTrue(same(told, [(-2, 1), (3, 3), (5, 1)]))
        self.assertTrue(same(worths_in((9, 0), [(("many", 4), 1, 3)]), [(9, 2)]))


class Most(unittest.TestCase):
    def test_against_a_going_through(self):
        for dice, bounds, rows, spots, gathering, things in drawn_cases(83, 200):
            self.assertTrue(same(most(bounds, gathering), plain_most(things)), (bounds, rows, spots))
            self.assertTrue(same(gathering, gathered(bounds, rows, spots)))

    def test_of_like_ones_the_least_worth(self):
        bounds = (-4, 3)
        for row, told in (
            ([3, 1, 2], (1, 1)), ([3, 1, 3, 1], (1, 2)), ([3, 3, -4, 2, 2], (2, 2)), ([2, 2, -4, -4, 3, 3, 0], (-4, 2)),
            ([3, 2, 1, 0, -1, -2, -3, -4], (-4, 1)), ([-4, -4, 3, 3, 3], (3, 3)), ([3, 3, 3, -4, -4], (3, 3)),
        ):
            tree = plain_tree(bounds, row)
            self.assertTrue(same(most(bounds, [(tree, 0, len(row))]), told), row)
            self.assertTrue(same(most(bounds, [(tree, k, k + 1) for k in range(len(row))]), told), row)

    def test_together_more_than_in_each_stretch(self):
        bounds = (0, 2)
        one = plain_tree(bounds, [3, 3, 3, 1, 1])
        other = plain_tree(bounds, [2, 2, 2, 1, 1])
        self.assertTrue(same(most(bounds, [(one, 0, 5), (other, 0, 5)]), (1, 4)))

    def test_nothing_in_it(self):
        tree = plain_tree((0, 2), [3, 1])
        for gathering in ([(None, 0, 0)], [(tree, 1, 1), (None, 0, 0)], [(tree, 2, 2)] * 8):
            self.assertIsNone(most((0, 2), gathering))

    def test_the_same_stretches_twice(self):
        for dice, bounds, rows, spots, gathering, things in drawn_cases(84, 100):
            once = gathering[:4]
            told = most(bounds, once)
            self.assertTrue(same(most(bounds, once + once), None if told is None else (told[0], 2 * told[1])))


class Often(unittest.TestCase):
    def test_against_a_going_through(self):
        for dice, bounds, rows, spots, gathering, things in drawn_cases(85, 120):
            for part in some_parts(dice, things):
                told = often(bounds, gathering, part)
                self.assertTrue(same(told, plain_often(things, part)), (bounds, rows, spots, part))
            self.assertTrue(same(gathering, gathered(bounds, rows, spots)))

    def test_nothing_at_the_very_edge(self):
        bounds = (-1, 2)
        tree = plain_tree(bounds, [2, 0, 2, 1, 0, 2])
        gathering = [(tree, 0, 6)]
        told = [often(bounds, gathering, part) for part in (1, 2, 3, 4, 6, 7)]
        all_three = [(0, 2), (1, 1), (2, 3)]
        self.assertTrue(same(told, [[], [], [(2, 3)], [(0, 2), (2, 3)], [(0, 2), (2, 3)], all_three]))

    def test_one_worth_alone_is_often_from_two_on(self):
        for bounds in ((5, 0), (5, 3), (5, 40)):
            gathering = [(plain_tree(bounds, [5, 5, 5]), 0, 3)]
            self.assertTrue(same(often(bounds, gathering, 1), []))
            for part in (2, 3, FAR):
                self.assertTrue(same(often(bounds, gathering, part), [(5, 3)]))

    def test_by_a_great_part_it_is_all_worths(self):
        for dice, bounds, rows, spots, gathering, things in drawn_cases(86, 60):
            for part in (len(things) + 1, FAR):
                self.assertTrue(same(often(bounds, gathering, part), plain_worths(things)))

    def test_nothing_in_it(self):
        tree = plain_tree((0, 2), [3, 1])
        for gathering in ([(None, 0, 0)], [(tree, 1, 1), (None, 0, 0)], [(tree, 2, 2)] * 8):
            for part in (1, 2, 3, 1000, FAR):
                self.assertTrue(same(often((0, 2), gathering, part), []))

    def test_what_is_told_is_the_askers(self):
        for dice, bounds, rows, spots, gathering, things in drawn_cases(87, 60):
            for part in (1, 2, 5, FAR):
                told = often(bounds, gathering, part)
                told.reverse()
                told.append("x")
                self.assertTrue(same(often(bounds, gathering, part), plain_often(things, part)))
            told = often(bounds, gathering, FAR)
            gathering.clear()
            self.assertTrue(same(told, plain_worths(things)))

    def test_the_same_stretches_twice(self):
        for dice, bounds, rows, spots, gathering, things in drawn_cases(88, 100):
            once = gathering[:4]
            for part in some_parts(dice, things):
                self.assertTrue(same(often(bounds, once + once, part), twice(often(bounds, once, part))))


if __name__ == "__main__":
    unittest.main()
