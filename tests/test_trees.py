"""Point 7: the tree of a row, what is a tree, its size, its row and the number at a place."""

import copy
import itertools
import random
import unittest

from drawn import (
    FAR, Sour, bounds_at, drawn_bounds, drawn_row, drawn_worth, long_row, nested, plain_tree, refused, same, strange,
    top, turns_of,
)
from manyleast.errors import Beyond, NoSuch
from manyleast.trees import is_tree, number_at, row_of, size_of, tree_of

WRITTEN = ("part", (1, 0, 1), ("part", (1,), None, ("many", 1)), ("part", (0, 0), ("many", 2), None))


def cases(seed, many):
    """Bounds with a row of theirs."""
    dice = random.Random(seed)
    for turn in range(many):
        bounds = drawn_bounds(dice)
        yield dice, bounds, long_row(dice, bounds) if turn % 20 == 0 else drawn_row(dice, bounds)


class TreeOf(unittest.TestCase):
    def test_built_by_halves(self):
        for dice, bounds, row in cases(20, 600):
            before = list(row)
            tree = tree_of(bounds, row)
            self.assertTrue(same(tree, plain_tree(bounds, row)), (bounds, row))
            self.assertTrue(same(row, before))

    def test_all_levels(self):
        dice = random.Random(21)
        for levels in range(41):
            for low in (0, -7, 10 ** 40 - 1, 1 - 10 ** 40):
                row = drawn_row(dice, (low, levels), 9) + [low, low + 2 ** levels - 1]
                self.assertTrue(same(tree_of((low, levels), row), plain_tree((low, levels), row)))

    def test_all_short_rows_of_small_bounds(self):
        for levels in range(3):
            for length in range(4):
                for row in itertools.product(range(-1, 2 ** levels - 1), repeat=length):
                    told = tree_of((-1, levels), list(row))
                    self.assertTrue(same(told, plain_tree((-1, levels), list(row))))

    def test_written_out(self):
        for levels in (0, 1, 40):
            self.assertIsNone(tree_of((3, levels), []))
        self.assertEqual(tree_of((5, 0), [5, 5, 5]), ("many", 3))
        self.assertEqual(tree_of((5, 1), [6, 5, 6]), ("part", (1, 0, 1), ("many", 1), ("many", 2)))
        self.assertEqual(tree_of((5, 1), [6]), ("part", (1,), None, ("many", 1)))
        self.assertEqual(tree_of((-2, 2), [0, -1, 0]), WRITTEN)

    def test_low_moves_nothing(self):
        for dice, bounds, row in cases(22, 100):
            moved = [number - bounds[0] - 4 for number in row]
            self.assertEqual(tree_of((-4, bounds[1]), moved), tree_of(bounds, row))

    def test_row_changed_afterwards(self):
        for dice, bounds, row in cases(23, 100):
            before = list(row)
            tree = tree_of(bounds, row)
            row.reverse()
            row.append(bounds[0])
            self.assertTrue(same(tree, plain_tree(bounds, before)))

    def test_a_thousand_numbers(self):
        dice = random.Random(24)
        row = [drawn_worth(dice, (-50, 40)) for place in range(1000)]
        tree = tree_of((-50, 40), row)
        self.assertTrue(same(tree, plain_tree((-50, 40), row)))
        self.assertIs(is_tree(40, tree), True)
        self.assertEqual(row_of((-50, 40), tree), row)


class TreeOfBeyond(unittest.TestCase):
    def test_first_of_those_that_lie_outside(self):
        for dice, bounds, row in cases(25, 400):
            for turn in range(dice.randint(1, 3)):
                far = dice.choice((1, 2, 1000, 2 ** bounds[1], 10 ** 49))
                row.insert(dice.randint(0, len(row)), dice.choice((bounds[0] - far, top(bounds) + far)))
            outside = [number for number in row if number < bounds[0] or number > top(bounds)]
            before = list(row)
            self.assertEqual(refused(self, Beyond, tree_of, bounds, row).number, outside[0])
            self.assertTrue(same(row, before))

    def test_first_in_the_row_is_not_the_least_nor_at_the_first_half(self):
        self.assertEqual(refused(self, Beyond, tree_of, (0, 2), [3, 0, 4, -1]).number, 4)
        self.assertEqual(refused(self, Beyond, tree_of, (0, 2), [3, 0, -1, 4]).number, -1)
        self.assertEqual(refused(self, Beyond, tree_of, (0, 0), [0, 0, 1]).number, 1)


def is_tree_by_words(levels, thing):
    """Whether the thing is just the tree of the row that can be read from it."""
    if levels == 0 and same(thing, ("many", FAR)):
        return True  # a row of so many numbers can be told, though not built
    try:
        row = read_row(levels, 0, thing)
        return same(thing, plain_tree((0, levels), row))
    except (TypeError, ValueError, IndexError, StopIteration, RuntimeError):
        return False


def read_row(levels, least, thing):
    if thing is None:
        return []
    if levels == 0:
        word, many = thing
        if type(many) is not int or not 0 < many < 20000:
            raise ValueError("no many")
        return [least] * many
    word, marks, lower, upper = thing
    halves = [iter(read_row(levels - 1, least, lower)), iter(read_row(levels - 1, least + 2 ** (levels - 1), upper))]
    return [next(halves[mark]) for mark in marks]


def replaced(tree, way, thing):
    """The tree with the thing in the place of its part at the way."""
    if not way:
        return thing
    turned = list(tree)
    turned[2 + way[0]] = replaced(tree[2 + way[0]], way[1:], thing)
    return tuple(turned)


def drawn_spot(dice, tree):
    """A way at which there is something to replace, and what stands there."""
    way = ()
    while tree is not None and tree[0] == "part" and dice.random() < 0.8:
        turn = dice.choice((0, 1))
        way, tree = way + (turn,), tree[2 + turn]
    return way, tree


def spoilt_marks(dice, marks):
    """Marks with one more, one fewer, another one, a truth, a text, or as a list."""
    place = dice.randrange(len(marks))
    exchanged = list(marks)
    exchanged[place] = 1 - marks[place]
    told = [marks + (0,), marks + (1,), (0,) + marks, marks[1:], marks[:-1], tuple(exchanged), list(marks), (), None]
    for thing in (bool(marks[place]), not marks[place], str(marks[place]), float(marks[place]), 2, -1, None, Sour()):
        told.append(marks[:place] + (thing,) + marks[place + 1:])
    return told + ["".join(str(mark) for mark in marks), tuple(reversed(marks))]


def spoilers(dice, part):
    """Things to stand in the place of a part; some of them may well be right there."""
    told = [None, "", "many", "part", True, False, 0, 1, -1, FAR, (), [], {}, Sour(), b"many", 1.0]
    told += [("many", many) for many in (0, 1, 2, 3, -1, FAR, -FAR, True, False, "1", None, 1.0, (1,), [1], Sour())]
    told += [("Many", 1), ("part", 1), ("", 1), (True, 1), (Sour(), 1), ["many", 1], ("many",), ("many", 1, 1)]
    if part is not None:
        told += [list(part), part[:-1], part + (None,), part[1:], ("other",) + part[1:], (None,) + part[1:]]
        told += [(word,) + part[1:] for word in ("many", "part", "Part", "parts", "par", b"part", 0, True, Sour())]
    if part is not None and part[0] == "part":
        told += [("part", marks, part[2], part[3]) for marks in spoilt_marks(dice, part[1])]
        told += [("part", part[1], part[3], part[2]), ("part", part[1], None, None), ("part", (), None, None)]
        told += [("part", part[1], part[2], part[2]), ("part", part[1], [], part[3]), part[2], part[3]]
    return told


class IsTree(unittest.TestCase):
    def test_trees_of_rows(self):
        for dice, bounds, row in cases(26, 400):
            self.assertIs(is_tree(bounds[1], plain_tree(bounds, row)), True)

    def test_other_levels(self):
        for dice, bounds, row in cases(27, 400):
            tree = plain_tree(bounds, row)
            for levels in (bounds[1] - 1, bounds[1] + 1, 0, 1, 40):
                if levels >= 0 and levels != bounds[1]:
                    self.assertIs(is_tree(levels, tree), tree is None)

    def test_part_replaced(self):
        told = {True: 0, False: 0}
        for dice, bounds, row in cases(28, 250):
            tree = plain_tree(bounds, row)
            way, part = drawn_spot(dice, tree)
            for thing in spoilers(dice, part):
                spoilt = replaced(tree, way, thing)
                expected = is_tree_by_words(bounds[1], spoilt)
                self.assertIs(is_tree(bounds[1], spoilt), expected)
                told[expected] += 1
        self.assertGreater(min(told.values()), 100)

    def test_part_of_another_tree(self):
        told = {True: 0, False: 0}
        for dice, bounds, row in cases(29, 600):
            tree = plain_tree(bounds, row)
            way, part = drawn_spot(dice, tree)
            other = plain_tree(bounds_at(bounds, way), drawn_row(dice, bounds_at(bounds, way)))
            alike = plain_tree(bounds_at(bounds, way), drawn_row(dice, bounds_at(bounds, way), size_of(part)))
            lower = plain_tree((0, bounds[1] - 1), [0]) if bounds[1] else None
            for thing in (other, alike, drawn_spot(dice, other)[1], lower):
                spoilt = replaced(tree, way, thing)
                expected = is_tree_by_words(bounds[1], spoilt)
                self.assertIs(is_tree(bounds[1], spoilt), expected)
                told[expected] += 1
        self.assertGreater(min(told.values()), 100)

    def test_many_alone(self):
        for many in (1, 2, 1000, 1001, FAR):
            self.assertIs(is_tree(0, ("many", many)), True)
            self.assertIs(is_tree(1, ("many", many)), False)
        for many in (0, -1, -FAR, True, False, "1", 1.0, None):
            self.assertIs(is_tree(0, ("many", many)), False)

    def test_halves_that_do_not_fit_the_marks(self):
        one = ("many", 1)
        self.assertIs(is_tree(1, ("part", (0, 1), one, one)), True)
        self.assertIs(is_tree(1, ("part", (0, 1), one, None)), False)
        self.assertIs(is_tree(1, ("part", (0, 0), one, one)), False)
        self.assertIs(is_tree(1, ("part", (0,), one, one)), False)
        self.assertIs(is_tree(1, ("part", (), None, None)), False)
        self.assertIs(is_tree(2, ("part", (0,), ("part", (), None, None), None)), False)
        self.assertIs(is_tree(2, ("part", (0, 0), ("part", (0,), one, None), None)), False)

    def test_anything(self):
        for levels in (0, 1, 2, 40):
            for thing in strange()[:-1] + [0, 1, FAR, nested(99, ("many", 1)), (("many", 1),)]:
                self.assertIs(is_tree(levels, thing), False)
                for tree in (("part", thing, None, None), ("part", (0,), thing, None), ("part", (1,), None, thing)):
                    self.assertIs(is_tree(levels, tree), False)
                for tree in ((thing, 1), ("many", thing if not isinstance(thing, int) else "1"), (thing,) * 4):
                    self.assertIs(is_tree(levels, tree), False)
            self.assertIs(is_tree(levels, None), True)

    def test_halves_nested_deep_and_the_same(self):
        thing = ("many", 1)
        for level in range(40):
            thing = ("part", (0, 1), thing, thing)
        self.assertIs(is_tree(40, thing), False)
        for level in range(59):
            thing = ("part", (0,), thing, None)
        self.assertIs(is_tree(40, thing), False)

    def test_nothing_is_changed(self):
        inner = ["part", [0, 1], {"a": [2]}]
        for thing in (inner, ("part", inner, None, None), ("part", (0,), inner, None), ("many", inner)):
            before = copy.deepcopy(thing)
            is_tree(0, thing)
            is_tree(1, thing)
            self.assertEqual(thing, before)


class OfATree(unittest.TestCase):
    def test_row(self):
        for dice, bounds, row in cases(30, 400):
            tree = plain_tree(bounds, row)
            told = row_of(bounds, tree)
            self.assertTrue(same(told, row))
            told.reverse()
            told.append("x")
            self.assertTrue(same(row_of(bounds, tree), row))
            self.assertTrue(same(tree, plain_tree(bounds, row)))

    def test_row_in_other_bounds(self):
        for dice, bounds, row in cases(31, 50):
            told = row_of((17, bounds[1]), plain_tree(bounds, row))
            self.assertEqual(told, [number - bounds[0] + 17 for number in row])

    def test_size(self):
        for dice, bounds, row in cases(32, 200):
            self.assertTrue(same(size_of(plain_tree(bounds, row)), len(row)))

    def test_size_of_each_part(self):
        for dice, bounds, row in cases(33, 50):
            part = plain_tree(bounds, row)
            full = turns_of(bounds, row[0]) if row else ()
            for depth, turn in enumerate(full):
                part = part[2 + turn]
                expected = [number for number in row if turns_of(bounds, number)[:depth + 1] == full[:depth + 1]]
                self.assertTrue(same(size_of(part), len(expected)))

    def test_number_at_each_place(self):
        for dice, bounds, row in cases(34, 400):
            tree = plain_tree(bounds, row)
            told = [number_at(bounds, tree, place) for place in range(len(row))]
            self.assertTrue(same(told, row))

    def test_no_number_there(self):
        for dice, bounds, row in cases(35, 200):
            tree = plain_tree(bounds, row)
            for place in (-1, -2, -len(row), -len(row) - 1, len(row), len(row) + 1, 1000, FAR, -FAR):
                if not 0 <= place < len(row):
                    refused(self, NoSuch, number_at, bounds, tree, place)

    def test_written_out(self):
        self.assertEqual(row_of((-2, 2), WRITTEN), [0, -1, 0])
        self.assertEqual(row_of((7, 0), ("many", 3)), [7, 7, 7])
        self.assertEqual(row_of((7, 5), None), [])
        self.assertEqual((size_of(None), size_of(("many", 4)), size_of(WRITTEN)), (0, 4, 3))
        self.assertEqual([number_at((-2, 2), WRITTEN, place) for place in range(3)], [0, -1, 0])


if __name__ == "__main__":
    unittest.main()
