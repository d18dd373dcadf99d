"""Papers: counts of a gathering's parts, which of them are right, and what shows by them."""

from manyleast.bounds import is_whole, many_worths
from manyleast.stretches import filled, led, many_in
from manyleast.trees import is_word


def keeps(levels, gathering, paper):
    """Whether what is handed in as the paper is one, and is kept for the gathering."""
    return is_kept(levels, filled(gathering), paper)


def is_kept(levels, parts, thing):
    """Whether the thing is a paper that is kept for parts by these levels."""
    if is_closed(thing):
        return thing[1] == many_in(parts)
    if levels == 0 or not is_split(thing) or thing[1] != many_in(parts):
        return False
    for turn in (0, 1):
        if not is_kept(levels - 1, filled(led(parts, (turn,))), thing[2 + turn]):
            return False
    return True


def is_closed(thing):
    """Whether the thing is "all" with a whole number."""
    return isinstance(thing, tuple) and len(thing) == 2 and is_word(thing[0], "all") and is_whole(thing[1])


def is_split(thing):
    """Whether the thing is "split" with a whole number and any two things."""
    return isinstance(thing, tuple) and len(thing) == 4 and is_word(thing[0], "split") and is_whole(thing[1])


def closed_parts(bounds, paper):
    """The rising list of (least, greatest, many) of the closed parts of a paper that is kept."""
    return closed_from(bounds[0], many_worths(bounds[1]), paper)


def closed_from(least, many, paper):
    """The closed parts of a paper of so many worths, from the least one on."""
    if is_closed(paper):
        return [(least, least + many - 1, paper[1])]
    half = many // 2
    return closed_from(least, half, paper[2]) + closed_from(least + half, half, paper[3])


def many_closed(closed, worth):
    """The many of the worth's full way, None where this isn't closed."""
    for least, greatest, many in closed:
        # A part of one worth stands at a full way.
        if least == worth and greatest == worth:
            return many
    return None


def shows_below(bounds, gathering, paper, number, many):
    """Whether the paper is kept and shows that so many things lie below the number."""
    if not keeps(bounds[1], gathering, paper):
        return False
    together = 0
    for least, greatest, things in closed_parts(bounds, paper):
        if things > 0 and least < number <= greatest:
            return False
        if greatest < number:
            together = together + things
    return together == many


def shows_least(bounds, gathering, paper, k, worth):
    """Whether the paper is kept and shows that the k-th thing has the worth."""
    if not keeps(bounds[1], gathering, paper):
        return False
    closed = closed_parts(bounds, paper)
    alike = many_closed(closed, worth)
    lesser = sum([things for least, greatest, things in closed if greatest < worth])
    return alike is not None and lesser <= k < lesser + alike


def shows_most(bounds, gathering, paper, worth, many):
    """Whether the paper is kept and shows that the worth comes most, so many times."""
    if many <= 0 or not keeps(bounds[1], gathering, paper):
        return False
    closed = closed_parts(bounds, paper)
    if many_closed(closed, worth) != many:
        return False
    for least, greatest, things in closed:
        # Of like manys the least worth comes most, so what is lesser must not even reach this one.
        if things > many or (things == many and greatest < worth):
            return False
    return True


def shows_often(bounds, gathering, paper, part, told):
    """Whether the paper is kept and shows that the told list is often by the part."""
    if not keeps(bounds[1], gathering, paper):
        return False
    found = []
    for least, greatest, things in closed_parts(bounds, paper):
        if things * part > paper[1]:
            if least < greatest:
                return False
            found.append((least, things))
    return found == told


def shows_up(bounds, gathering, paper, number, told):
    """Whether the paper is kept and shows that the told (worth, many), or None, is next up of the number."""
    if not keeps(bounds[1], gathering, paper):
        return False
    closed = closed_parts(bounds, paper)
    above = [part for part in closed if part[2] > 0 and part[1] > number]
    if told is None:
        return len(above) == 0
    worth = told[0]
    if worth <= number or told[1] <= 0 or many_closed(closed, worth) != told[1]:
        return False
    # The worth's own part is one of these; each other one must lie wholly above it.
    return all([least >= worth for least, greatest, things in above])
