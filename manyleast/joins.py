"""Whole rows cut out, joined, turned about, flipped and put in wider bounds."""

from manyleast.bounds import is_bounds, many_worths
from manyleast.errors import NoBounds
from manyleast.stretches import led_stretch
from manyleast.trees import size_of


def cut_out(stretch):
    """The tree of the stretch."""
    tree = stretch[0]
    start = stretch[1]
    end = stretch[2]
    if start == end:
        return None
    if tree[0] == "many":
        return ("many", end - start)
    lower = cut_out(led_stretch(stretch, (0,)))
    upper = cut_out(led_stretch(stretch, (1,)))
    return ("part", tree[1][start:end], lower, upper)


def joined(one, other):
    """The tree of the one row, and behind it the other one."""
    if one is None:
        return other
    if other is None:
        return one
    if one[0] == "many":
        return ("many", one[1] + other[1])
    return ("part", one[1] + other[1], joined(one[2], other[2]), joined(one[3], other[3]))


def turned(tree):
    """The tree of the row from the last number to the first."""
    if tree is None or tree[0] == "many":
        return tree
    return ("part", tuple(reversed(tree[1])), turned(tree[2]), turned(tree[3]))


def flipped(tree):
    """The tree of the row with low and top, less the number, for each number."""
    if tree is None or tree[0] == "many":
        return tree
    # What lay so far above low now lies so far below the top: at each level the halves change places.
    return ("part", tuple([1 - mark for mark in tree[1]]), flipped(tree[3]), flipped(tree[2]))


def wider(bounds, tree, side):
    """The tuple of the bounds wider on the side, "up" or "down", and the tree of the same row by them, or NoBounds."""
    low = bounds[0] if side == "up" else bounds[0] - many_worths(bounds[1])
    wide = (low, bounds[1] + 1)
    if not is_bounds(wide):
        raise NoBounds("the wider bounds would be no bounds")
    if tree is None:
        return (wide, None)
    # Widened up, all that stood is the lower half of the worths; widened down, the upper one.
    if side == "up":
        return (wide, ("part", (0,) * size_of(tree), tree, None))
    return (wide, ("part", (1,) * size_of(tree), None, tree))
