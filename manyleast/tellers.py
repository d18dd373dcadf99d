"""The told papers of right answers: split only where no paper that shows the answer is closed."""

from manyleast.asks import nth_least
from manyleast.bounds import many_worths
from manyleast.errors import NoSuch
from manyleast.often import most
from manyleast.stretches import filled, led, many_in
from manyleast.ups import next_up


def paper_below(bounds, gathering, number):
    """The told paper of how many things lie below the number."""
    return told_paper(bounds, gathering, lambda least, greatest, things: things > 0 and least < number <= greatest)


def paper_least(bounds, gathering, k):
    """The told paper of the k-th thing's worth, or NoSuch."""
    worth = nth_least(bounds, gathering, k)[0]
    return told_paper(bounds, gathering, lambda least, greatest, things: least <= worth <= greatest)


def paper_most(bounds, gathering):
    """The told paper of what comes most, or NoSuch."""
    found = most(bounds, gathering)
    if found is None:
        raise NoSuch("nothing comes most where there is nothing")
    worth = found[0]
    many = found[1]

    def must_split(least, greatest, things):
        if greatest < worth:
            return things >= many
        if least > worth:
            return things > many
        return True

    return told_paper(bounds, gathering, must_split)


def paper_often(bounds, gathering, part):
    """The told paper of what is often by the part."""
    whole = many_in(gathering)
    return told_paper(bounds, gathering, lambda least, greatest, things: things * part > whole)


def paper_up(bounds, gathering, number):
    """The told paper of what is next up of the number."""
    found = next_up(bounds, gathering, number)

    def must_split(least, greatest, things):
        if things == 0 or greatest <= number:
            return False
        return found is None or least <= found[0]

    return told_paper(bounds, gathering, must_split)


def told_paper(bounds, gathering, must_split):
    """The paper split just at the ways of which must_split(least, greatest, things) is so, full ones aside."""
    return paper_from(bounds[0], many_worths(bounds[1]), filled(gathering), must_split)


def paper_from(least, many, parts, must_split):
    """The told paper of parts with worths out of so many, from the least one on."""
    things = many_in(parts)
    if many == 1 or not must_split(least, least + many - 1, things):
        return ("all", things)
    half = many // 2
    lower = paper_from(least, half, filled(led(parts, (0,))), must_split)
    upper = paper_from(least + half, half, filled(led(parts, (1,))), must_split)
    return ("split", things, lower, upper)
