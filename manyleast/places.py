"""The first and the last place of a stretch whose number lies between two bounds."""

from manyleast.bounds import many_worths
from manyleast.marks import place_of
from manyleast.stretches import led_stretch


def first_place(bounds, stretch, low, high):
    """The least place of the stretch whose number lies from low to high, or None."""
    ends = ends_between(bounds[0], many_worths(bounds[1]), stretch, low, high)
    return None if ends is None else ends[0]


def last_place(bounds, stretch, low, high):
    """The greatest place of the stretch whose number lies from low to high, or None."""
    ends = ends_between(bounds[0], many_worths(bounds[1]), stretch, low, high)
    return None if ends is None else ends[1]


def ends_between(least, many, stretch, low, high):
    """The tuple of both such places, in a stretch with worths out of so many, from the least one on, or None."""
    greatest = least + many - 1
    if stretch[1] == stretch[2] or low > greatest or high < least:
        return None
    if low <= least and greatest <= high:
        return (stretch[1], stretch[2] - 1)
    half = many // 2
    found = []
    for turn in (0, 1):
        inner = ends_between(least + turn * half, half, led_stretch(stretch, (turn,)), low, high)
        if inner is not None:
            found.extend([place_of(stretch[0][1], turn, place) for place in inner])
    if len(found) == 0:
        return None
    return (min(found), max(found))
