"""The worths of a gathering with their manys: all, what comes most, what comes often."""

from manyleast.bounds import many_worths
from manyleast.stretches import filled, led, many_in


def worths_in(bounds, gathering):
    """The rising list of (worth, many) of all worths of the gathering."""
    return counted_above(bounds[0], many_worths(bounds[1]), filled(gathering), 1, 0)


def most(bounds, gathering):
    """The (worth, many) of the greatest many, of like ones that of the least worth, or None."""
    best = None
    for counted in worths_in(bounds, gathering):
        # The worths rise, so of like manys the first one is to stay.
        if best is None or counted[1] > best[1]:
            best = counted
    return best


def often(bounds, gathering, part):
    """The rising list of (worth, many) with many times part above how many things there are."""
    return counted_above(bounds[0], many_worths(bounds[1]), filled(gathering), part, many_in(gathering))


def counted_above(least, many, parts, part, floor):
    """The rising (worth, many), out of so many worths from the least one on, with many times part above floor."""
    things = many_in(parts)
    # No worth of a part comes more often than the part has things, so what is left out here has none.
    if things * part <= floor:
        return []
    if many == 1:
        return [(least, things)]
    half = many // 2
    lower = counted_above(least, half, filled(led(parts, (0,))), part, floor)
    upper = counted_above(least + half, half, filled(led(parts, (1,))), part, floor)
    return lower + upper
