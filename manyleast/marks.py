"""Marks: tuples of noughts and ones, counted by their places."""

from manyleast.errors import NoSuch


def ahead(marks, mark, place):
    """How many marks like mark stand ahead of the place."""
    # A slice would count a place below 0 from the end; ahead of it is nothing.
    return marks[:max(place, 0)].count(mark)


def place_of(marks, mark, number):
    """The place of the mark with this number among those like it, or NoSuch."""
    left = number
    for place, other in enumerate(marks):
        if other == mark:
            if left == 0:
                return place
            left = left - 1
    raise NoSuch("there is no mark with this number")


def crossed(marks, start, end):
    """How many pairs of the stretch have a 1 and, at a greater place, a 0."""
    ones = 0
    pairs = 0
    for place in range(max(start, 0), min(end, len(marks))):
        if marks[place] == 1:
            ones = ones + 1
        else:
            pairs = pairs + ones
    return pairs
