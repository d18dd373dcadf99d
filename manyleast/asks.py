"""The things of a gathering in order: the k-th one, its number, how many lie where."""

from manyleast.bounds import span_of, way_of, where
from manyleast.errors import NoSuch
from manyleast.stretches import led, lifted, many_in
from manyleast.trees import number_at


def nth_least(bounds, gathering, k):
    """The k-th thing in order as the tuple (worth, j, place), or NoSuch."""
    if k < 0 or k >= many_in(gathering):
        raise NoSuch("there is no such k")
    way = way_of_nth(bounds[1], gathering, k)
    alike = k - many_lesser(gathering, way)
    return (span_of(bounds, way)[0],) + nth_alike(gathering, way, alike)


def way_of_nth(levels, gathering, k):
    """The full way of the k-th thing's worth; there is such a thing."""
    way = []
    parts = gathering
    left = k
    for level in range(levels):
        lower = many_in(led(parts, (0,)))
        turn = 0 if left < lower else 1
        left = left - turn * lower
        parts = led(parts, (turn,))
        way.append(turn)
    return tuple(way)


def nth_alike(gathering, way, number):
    """The tuple (j, place) of the thing with this number among those of the full way."""
    parts = led(gathering, way)
    left = number
    j = 0
    while left >= many_in([parts[j]]):
        left = left - many_in([parts[j]])
        j = j + 1
    return (j, lifted(gathering[j][0], way, parts[j][1] + left))


def many_lesser(gathering, way):
    """How many things have worths below all those that the way stands for."""
    many = 0
    parts = gathering
    for turn in way:
        if turn == 1:
            many = many + many_in(led(parts, (0,)))
        parts = led(parts, (turn,))
    return many


def rank_of(bounds, gathering, j, place):
    """The number of the thing of stretch j at the place, in order, or NoSuch."""
    if j < 0 or j >= len(gathering):
        raise NoSuch("there is no such stretch")
    stretch = gathering[j]
    if place < stretch[1] or place >= stretch[2]:
        raise NoSuch("there is no such place in the stretch")
    way = way_of(bounds, number_at(bounds, stretch[0], place))
    # Of things alike, just those of the stretches before and of this one up to the place are ahead.
    before = gathering[:j] + [(stretch[0], stretch[1], place)]
    return many_lesser(gathering, way) + many_in(led(before, way))


def below(bounds, gathering, number):
    """How many things lie below the number."""
    side = where(bounds, number)
    if side == "below":
        return 0
    if side == "above":
        return many_in(gathering)
    return many_lesser(gathering, way_of(bounds, number))


def between(bounds, gathering, low, high):
    """How many things lie from low to high, both among them."""
    if low > high:
        return 0
    return below(bounds, gathering, high + 1) - below(bounds, gathering, low)
