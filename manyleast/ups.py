"""What comes next above and below a number in a gathering, and the sum of its least."""

from manyleast.asks import below, way_of_nth
from manyleast.bounds import many_worths, span_of
from manyleast.errors import NoSuch
from manyleast.stretches import filled, led, many_in


def next_up(bounds, gathering, number):
    """The least worth above the number with its many, as (worth, many), or None."""
    k = below(bounds, gathering, number + 1)
    if k == many_in(gathering):
        return None
    return counted_nth(bounds, gathering, k)


def next_down(bounds, gathering, number):
    """The greatest worth below the number with its many, as (worth, many), or None."""
    k = below(bounds, gathering, number) - 1
    if k < 0:
        return None
    return counted_nth(bounds, gathering, k)


def counted_nth(bounds, gathering, k):
    """The worth of the k-th thing, and how many things have it; there is such a thing."""
    way = way_of_nth(bounds[1], gathering, k)
    return (span_of(bounds, way)[0], many_in(led(gathering, way)))


def sum_of_least(bounds, gathering, k):
    """The worths of the first k things added, or NoSuch."""
    if k < 0 or k > many_in(gathering):
        raise NoSuch("there are not so many things")
    return sum_from(bounds[0], many_worths(bounds[1]), filled(gathering), k)


def sum_from(least, many, parts, k):
    """The sum of the first k of parts with worths out of so many, from the least one on."""
    if k == 0:
        return 0
    if many == 1:
        return least * k
    half = many // 2
    lower = filled(led(parts, (0,)))
    upper = filled(led(parts, (1,)))
    # The lower half is used up ahead of the upper one.
    first = min(k, many_in(lower))
    return sum_from(least, half, lower, first) + sum_from(least + half, half, upper, k - first)
