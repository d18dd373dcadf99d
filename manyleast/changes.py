"""Rows changed at one place: a number put in, taken out, set."""

from manyleast.bounds import way_of
from manyleast.errors import NoSuch
from manyleast.marks import ahead
from manyleast.trees import half_of, number_at, size_of


def put_in(bounds, tree, place, number):
    """The tree of the row with the number put in at the place, or NoSuch, or Beyond."""
    if place < 0 or place > size_of(tree):
        raise NoSuch("there is no such place to put a number in")
    return with_way(tree, way_of(bounds, number), place)


def with_way(tree, way, place):
    """The tree with a number of this full way put in at the place."""
    if len(way) == 0:
        return ("many", size_of(tree) + 1)
    turn = way[0]
    marks = () if tree is None else tree[1]
    half = with_way(half_of(tree, turn), way[1:], ahead(marks, turn, place))
    return with_half(marks[:place] + (turn,) + marks[place:], tree, turn, half)


def with_half(marks, tree, turn, half):
    """The part with these marks, this half for the turn, and the tree's own half for the other one."""
    if turn == 0:
        return ("part", marks, half, half_of(tree, 1))
    return ("part", marks, half_of(tree, 0), half)


def taken_out(bounds, tree, place):
    """The tuple of the tree without the number at the place, and this number, or NoSuch."""
    number = number_at(bounds, tree, place)
    return (without(tree, place), number)


def without(tree, place):
    """The tree without the number at the place; there is one."""
    if size_of(tree) == 1:
        return None
    if tree[0] == "many":
        return ("many", tree[1] - 1)
    marks = tree[1]
    turn = marks[place]
    half = without(half_of(tree, turn), ahead(marks, turn, place))
    return with_half(marks[:place] + marks[place + 1:], tree, turn, half)


def set_at(bounds, tree, place, number):
    """The tree of the row with the number in the place of the one that stood there, or NoSuch, or Beyond."""
    return put_in(bounds, taken_out(bounds, tree, place)[0], place, number)
