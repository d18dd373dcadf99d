"""Stretches of rows, gathered, and led down to the parts of their trees."""

from manyleast.errors import NoSuch
from manyleast.marks import ahead, place_of
from manyleast.trees import half_of, size_of


def many_in(gathering):
    """How many things the gathering has."""
    return sum([stretch[2] - stretch[1] for stretch in gathering])


def filled(gathering):
    """The stretches of the gathering that have things."""
    return [stretch for stretch in gathering if stretch[1] < stretch[2]]


def led(gathering, way):
    """The gathering led by the way."""
    return [led_stretch(stretch, way) for stretch in gathering]


def led_stretch(stretch, way):
    """The part at the way, with the stretch of the numbers that come of the first one."""
    part = stretch[0]
    start = stretch[1]
    end = stretch[2]
    for turn in way:
        half = half_of(part, turn)
        if half is None:
            return (None, 0, 0)
        start = ahead(part[1], turn, start)
        end = ahead(part[1], turn, end)
        part = half
    return (part, start, end)


def lifted(tree, way, place):
    """The place in the tree's row of the number at a place of the part at the way, or NoSuch."""
    if len(way) == 0:
        if place < 0 or place >= size_of(tree):
            raise NoSuch("there is no such place at the way")
        return place
    # Where there is no part, the walk goes on with None, which has no place at all.
    inner = lifted(half_of(tree, way[0]), way[1:], place)
    return place_of(tree[1], way[0], inner)
