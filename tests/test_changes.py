"""Point 20: a number put in, taken out, set."""

import random
import unittest

from drawn import FAR, drawn_bounds, drawn_row, drawn_worth, long_row, plain_tree, refused, same, top
from manyleast.changes import put_in, set_at, taken_out
from manyleast.errors import Beyond, NoSuch
from manyleast.trees import is_tree


def drawn_rows(seed, many):
    """The dice, bounds, a row by them, and its tree; some rows long, some empty."""
    dice = random.Random(seed)
    for turn in range(many):
        bounds = drawn_bounds(dice)
        row = long_row(dice, bounds) if turn % 12 == 0 else drawn_row(dice, bounds)
        yield dice, bounds, row, plain_tree(bounds, row)


def some_places(dice, many):
    """All places below so many, or the first, the last and some others."""
    return list(range(many)) if many <= 15 else [0, 1, many - 2, many - 1] + dice.sample(range(many), 8)


def some_worths(dice, bounds, row):
    """Worths that stand in the row and others, those at the ends too."""
    return [dice.choice(row + [top(bounds)]), drawn_worth(dice, bounds), bounds[0], top(bounds)]


def beyond(bounds):
    return [bounds[0] - 1, top(bounds) + 1, bounds[0] - 2, top(bounds) + 10 ** 9, FAR, -FAR]


def places_behind(many):
    """Places that there aren't, where there are so many."""
    return [-1, -2, -many, -many - 1, many, many + 1, many + 1000, FAR, -FAR][0 if many else 3:]


class PutIn(unittest.TestCase):
    def test_the_tree_of_the_changed_row(self):
        for dice, bounds, row, tree in drawn_rows(130, 150):
            for place in some_places(dice, len(row) + 1):
                for number in some_worths(dice, bounds, row):
                    told = put_in(bounds, tree, place, number)
                    right = plain_tree(bounds, row[:place] + [number] + row[place:])
                    self.assertTrue(same(told, right), (bounds, row, place, number))
            self.assertTrue(same(tree, plain_tree(bounds, row)))

    def test_a_row_put_in_one_by_one(self):
        for dice, bounds, row, tree in drawn_rows(131, 60):
            told = None
            for place, number in enumerate(row):
                told = put_in(bounds, told, place, number)
            self.assertTrue(same(told, tree), (bounds, row))
            told = None
            for number in reversed(row):
                told = put_in(bounds, told, 0, number)
            self.assertTrue(same(told, tree), (bounds, row))

    def test_no_such_place(self):
        for dice, bounds, row, tree in drawn_rows(132, 80):
            for place in places_behind(len(row) + 1):
                for number in [drawn_worth(dice, bounds)] + beyond(bounds):
                    refused(self, NoSuch, put_in, bounds, tree, place, number)
            self.assertTrue(same(tree, plain_tree(bounds, row)))

    def test_a_number_beyond(self):
        for dice, bounds, row, tree in drawn_rows(133, 80):
            for place in (0, len(row), dice.randint(0, len(row))):
                for number in beyond(bounds):
                    told = refused(self, Beyond, put_in, bounds, tree, place, number)
                    self.assertTrue(same(told.number, number))
            self.assertTrue(same(tree, plain_tree(bounds, row)))

    def test_written_out(self):
        self.assertTrue(same(put_in((5, 0), None, 0, 5), ("many", 1)))
        self.assertTrue(same(put_in((5, 0), ("many", 2), 1, 5), ("many", 3)))
        tree = put_in((5, 1), None, 0, 6)
        self.assertTrue(same(tree, ("part", (1,), None, ("many", 1))))
        tree = put_in((5, 1), tree, 0, 5)
        self.assertTrue(same(tree, ("part", (0, 1), ("many", 1), ("many", 1))))
        self.assertTrue(same(put_in((5, 1), tree, 1, 6), ("part", (0, 1, 1), ("many", 1), ("many", 2))))


class TakenOut(unittest.TestCase):
    def test_the_tree_of_the_changed_row_and_the_number(self):
        for dice, bounds, row, tree in drawn_rows(134, 200):
            for place in some_places(dice, len(row)):
                told = taken_out(bounds, tree, place)
                right = (plain_tree(bounds, row[:place] + row[place + 1:]), row[place])
                self.assertTrue(same(told, right), (bounds, row, place))
            self.assertTrue(same(tree, plain_tree(bounds, row)))

    def test_a_row_taken_out_one_by_one(self):
        for dice, bounds, row, tree in drawn_rows(135, 60):
            left = list(row)
            told = tree
            while left:
                place = dice.randrange(len(left))
                told, number = taken_out(bounds, told, place)
                self.assertTrue(same(number, left.pop(place)))
                self.assertTrue(same(told, plain_tree(bounds, left)), (bounds, row))
            self.assertIsNone(told)

    def test_what_is_put_in_and_taken_out_again(self):
        for dice, bounds, row, tree in drawn_rows(136, 120):
            for place in some_places(dice, len(row) + 1):
                number = drawn_worth(dice, bounds)
                told = taken_out(bounds, put_in(bounds, tree, place, number), place)
                self.assertTrue(same(told, (tree, number)), (bounds, row, place, number))
            for place in some_places(dice, len(row)):
                less, number = taken_out(bounds, tree, place)
                self.assertTrue(same(put_in(bounds, less, place, number), tree), (bounds, row, place))

    def test_no_such_place(self):
        for dice, bounds, row, tree in drawn_rows(137, 80):
            for place in places_behind(len(row)):
                refused(self, NoSuch, taken_out, bounds, tree, place)
            self.assertTrue(same(tree, plain_tree(bounds, row)))

    def test_written_out(self):
        self.assertTrue(same(taken_out((5, 0), ("many", 1), 0), (None, 5)))
        self.assertTrue(same(taken_out((5, 0), ("many", 3), 2), (("many", 2), 5)))
        tree = ("part", (0, 1), ("many", 1), ("many", 1))
        self.assertTrue(same(taken_out((5, 1), tree, 0), (("part", (1,), None, ("many", 1)), 5)))
        self.assertTrue(same(taken_out((5, 1), tree, 1), (("part", (0,), ("many", 1), None), 6)))


class SetAt(unittest.TestCase):
    def test_the_tree_of_the_changed_row(self):
        for dice, bounds, row, tree in drawn_rows(138, 150):
            for place in some_places(dice, len(row)):
                for number in some_worths(dice, bounds, row):
                    told = set_at(bounds, tree, place, number)
                    right = plain_tree(bounds, row[:place] + [number] + row[place + 1:])
                    self.assertTrue(same(told, right), (bounds, row, place, number))
                    self.assertTrue(same(set_at(bounds, told, place, row[place]), tree), (bounds, row, place, number))
            self.assertTrue(same(tree, plain_tree(bounds, row)))

    def test_no_such_place(self):
        for dice, bounds, row, tree in drawn_rows(139, 80):
            for place in places_behind(len(row)):
                for number in [drawn_worth(dice, bounds)] + beyond(bounds):
                    refused(self, NoSuch, set_at, bounds, tree, place, number)
            self.assertTrue(same(tree, plain_tree(bounds, row)))

    def test_a_number_beyond(self):
        for dice, bounds, row, tree in drawn_rows(140, 80):
            for place in ([0, len(row) - 1, dice.randrange(len(row))] if row else []):
                for number in beyond(bounds):
                    told = refused(self, Beyond, set_at, bounds, tree, place, number)
                    self.assertTrue(same(told.number, number))
            self.assertTrue(same(tree, plain_tree(bounds, row)))

    def test_written_out(self):
        self.assertTrue(same(set_at((5, 0), ("many", 2), 1, 5), ("many", 2)))
        tree = ("part", (0, 1), ("many", 1), ("many", 1))
        self.assertTrue(same(set_at((5, 1), tree, 0, 6), ("part", (1, 1), None, ("many", 2))))
        self.assertTrue(same(set_at((5, 1), tree, 1, 6), tree))


class Changes(unittest.TestCase):
    def test_behind_any_changes_it_is_the_tree_of_the_row_made_anew(self):
        for dice, bounds, row, tree in drawn_rows(141, 60):
            made = list(row)
            makes = [(tree, list(row))]
            for turn in range(25):
                number = dice.choice(some_worths(dice, bounds, made))
                change = dice.choice(("put", "put", "take", "set")) if made else "put"
                if change == "put":
                    place = dice.randint(0, len(made))
                    tree = put_in(bounds, tree, place, number)
                    made.insert(place, number)
                elif change == "take":
                    place = dice.randrange(len(made))
                    tree, number = taken_out(bounds, tree, place)
                    self.assertTrue(same(number, made.pop(place)))
                else:
                    place = dice.randrange(len(made))
                    tree = set_at(bounds, tree, place, number)
                    made[place] = number
                self.assertTrue(is_tree(bounds[1], tree))
                makes.append((tree, list(made)))
            for told, numbers in makes:
                self.assertTrue(same(told, plain_tree(bounds, numbers)), (bounds, numbers))

    def test_a_row_of_a_thousand(self):
        dice = random.Random(142)
        bounds = (-7, 40)
        row = [drawn_worth(dice, bounds) for place in range(999)]
        tree = plain_tree(bounds, row)
        for place in (0, 500, 999):
            more = put_in(bounds, tree, place, 10 ** 9)
            self.assertTrue(same(more, plain_tree(bounds, row[:place] + [10 ** 9] + row[place:])))
            self.assertTrue(same(taken_out(bounds, more, place), (tree, 10 ** 9)))


if __name__ == "__main__":
    unittest.main()
