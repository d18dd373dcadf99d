"""Points 9 and 10: stretches and gatherings, led by a way, and places lifted."""

import random
import unittest

from drawn import (
    FAR, bounds_at, drawn_bounds, drawn_case, drawn_row, drawn_ways, gathered, long_row, places_at, plain_tree,
    refused, same, things_of,
)
from manyleast.errors import NoSuch
from manyleast.stretches import led, lifted, many_in


def cases(seed, many):
    dice = random.Random(seed)
    for turn in range(many):
        yield (dice,) + drawn_case(dice, turn)


def plain_led(bounds, rows, spots, way):
    told = []
    for number, start, end in spots:
        places = places_at(bounds, rows[number], way)
        part = plain_tree(bounds_at(bounds, way), [rows[number][place] for place in places])
        ends = [len([place for place in places if place < one]) for one in (start, end)]
        told.append((part, ends[0], ends[1]))
    return told


class ManyIn(unittest.TestCase):
    def test_how_many_things(self):
        for dice, bounds, rows, spots, gathering in cases(50, 200):
            self.assertTrue(same(many_in(gathering), len(things_of(rows, spots))))

    def test_written_out(self):
        tree = plain_tree((0, 2), [3, 1, 2])
        self.assertEqual(many_in([(None, 0, 0)]), 0)
        self.assertEqual(many_in([(tree, 1, 1)]), 0)
        self.assertEqual(many_in([(tree, 0, 3), (tree, 1, 2), (tree, 1, 2)]), 5)


class Led(unittest.TestCase):
    def test_parts_with_what_comes_of_the_stretches(self):
        for dice, bounds, rows, spots, gathering in cases(51, 200):
            for way in drawn_ways(dice, bounds, rows):
                expected = plain_led(bounds, rows, spots, way)
                self.assertTrue(same(led(gathering, way), expected), (bounds, rows, spots, way))

    def test_nothing_where_no_number_lies(self):
        tree = plain_tree((0, 2), [3, 2, 3])
        self.assertEqual(led([(tree, 0, 3), (None, 0, 0), (tree, 3, 3)], (0,)), [(None, 0, 0)] * 3)
        self.assertEqual(led([(tree, 1, 2)], (0, 1)), [(None, 0, 0)])
        self.assertEqual(led([(None, 0, 0)], (1, 1)), [(None, 0, 0)])

    def test_an_empty_stretch_keeps_the_part(self):
        tree = plain_tree((0, 1), [1, 0, 1, 1])
        self.assertEqual(led([(tree, 3, 3), (tree, 4, 4)], (1,)), [(("many", 3), 2, 2), (("many", 3), 3, 3)])

    def test_one_more_mark_is_the_longer_way(self):
        for dice, bounds, rows, spots, gathering in cases(52, 100):
            for way in drawn_ways(dice, bounds, rows):
                cut = dice.randint(0, len(way))
                self.assertTrue(same(led(led(gathering, way[:cut]), way[cut:]), led(gathering, way)))
                if way:
                    self.assertTrue(same(led(led(gathering, way[:-1]), way[-1:]), led(gathering, way)))

    def test_both_halves_have_all_things(self):
        for dice, bounds, rows, spots, gathering in cases(53, 100):
            for way in drawn_ways(dice, bounds, rows):
                if len(way) < bounds[1]:
                    halves = [many_in(led(gathering, way + (turn,))) for turn in (0, 1)]
                    self.assertEqual(sum(halves), many_in(led(gathering, way)))

    def test_by_nothing(self):
        for dice, bounds, rows, spots, gathering in cases(54, 60):
            told = led(gathering, ())
            self.assertTrue(same(told, gathering))
            told.append("x")
            self.assertTrue(same(gathering, gathered(bounds, rows, spots)))

    def test_what_is_handed_in_stays_and_what_is_told_is_the_askers(self):
        for dice, bounds, rows, spots, gathering in cases(55, 60):
            for way in drawn_ways(dice, bounds, rows):
                told = led(gathering, way)
                many_in(gathering)
                self.assertTrue(same(gathering, gathered(bounds, rows, spots)))
                told.clear()
                self.assertTrue(same(led(gathering, way), plain_led(bounds, rows, spots, way)))
                told = led(gathering, way)
                gathering.reverse()
                self.assertTrue(same(told, plain_led(bounds, rows, spots, way)))
                gathering.reverse()


class Lifted(unittest.TestCase):
    def rows(self, seed, many):
        dice = random.Random(seed)
        for turn in range(many):
            bounds = drawn_bounds(dice)
            yield dice, bounds, long_row(dice, bounds) if turn % 20 == 0 else drawn_row(dice, bounds)

    def test_each_place_of_the_part(self):
        for dice, bounds, row in self.rows(56, 250):
            tree = plain_tree(bounds, row)
            for way in drawn_ways(dice, bounds, [row]):
                places = places_at(bounds, row, way)
                told = [lifted(tree, way, place) for place in range(len(places))]
                self.assertTrue(same(told, places), (bounds, row, way))

    def test_no_such_place(self):
        for dice, bounds, row in self.rows(57, 250):
            tree = plain_tree(bounds, row)
            for way in drawn_ways(dice, bounds, [row]):
                many = len(places_at(bounds, row, way))
                for place in (many, many + 1, 1000, FAR, -1, -2, -many - 1, -FAR):
                    refused(self, NoSuch, lifted, tree, way, place)

    def test_no_part_at_the_way(self):
        tree = plain_tree((0, 3), [5, 5])
        for way in ((0,), (0, 1, 0), (1, 1), (1, 0, 0)):
            for place in (0, 1, 2, -1, FAR, -FAR):
                refused(self, NoSuch, lifted, tree, way, place)
        for way in ((), (0,), (1,) * 40):
            for place in (0, 1, -1, FAR):
                refused(self, NoSuch, lifted, None, way, place)

    def test_written_out(self):
        tree = plain_tree((0, 2), [3, 1, 2, 3, 0])
        self.assertEqual([lifted(tree, (1,), place) for place in range(3)], [0, 2, 3])
        self.assertEqual([lifted(tree, (1, 1), place) for place in range(2)], [0, 3])
        self.assertEqual([lifted(tree, (), place) for place in range(5)], [0, 1, 2, 3, 4])


if __name__ == "__main__":
    unittest.main()
