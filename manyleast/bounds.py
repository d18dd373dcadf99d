"""Bounds, the worths within them, and the ways that halve these."""

from manyleast.errors import Beyond


def is_whole(thing):
    """Whether the thing is an int that is no truth."""
    return isinstance(thing, int) and not isinstance(thing, bool)


def is_bounds(thing):
    """Whether the thing is a tuple (low, levels) as bounds are."""
    if not isinstance(thing, tuple) or len(thing) != 2:
        return False
    return is_low(thing[0]) and is_levels(thing[1])


def is_low(thing):
    """Whether the thing is a whole number of at most forty figures."""
    return is_whole(thing) and -(10 ** 40) < thing < 10 ** 40


def is_levels(thing):
    """Whether the thing is a whole number from 0 to 40."""
    return is_whole(thing) and 0 <= thing <= 40


def is_way(levels, thing):
    """Whether the thing is a tuple of at most levels noughts and ones."""
    if not isinstance(thing, tuple) or len(thing) > levels:
        return False
    return all([is_turn(turn) for turn in thing])


def is_turn(thing):
    """Whether the thing is 0 or 1, and no truth."""
    return is_whole(thing) and 0 <= thing <= 1


def many_worths(levels):
    """2 to the power levels: how many worths bounds with these levels have."""
    many = 1
    for level in range(levels):
        many = many * 2
    return many


def top_of(bounds):
    """The greatest worth of the bounds."""
    return bounds[0] + many_worths(bounds[1]) - 1


def where(bounds, number):
    """Where the number lies: "below", "within" or "above"."""
    if number < bounds[0]:
        return "below"
    if number > top_of(bounds):
        return "above"
    return "within"


def span_of(bounds, way):
    """The least and the greatest worth that the way stands for."""
    least = bounds[0]
    many = many_worths(bounds[1])
    for turn in way:
        many = many // 2
        if turn == 1:
            least = least + many
    return (least, least + many - 1)


def way_of(bounds, number):
    """The full way of the number, or Beyond."""
    if where(bounds, number) != "within":
        raise Beyond(number)
    least = bounds[0]
    many = many_worths(bounds[1])
    way = []
    for level in range(bounds[1]):
        many = many // 2
        if number < least + many:
            way.append(0)
        else:
            way.append(1)
            least = least + many
    return tuple(way)
