"""The pairs of a stretch: how many fall, rise and are alike, and at which ways they fall."""

from manyleast.marks import crossed
from manyleast.stretches import led_stretch


def falls(stretch):
    """How many pairs of the stretch fall."""
    return sum([many for way, many in falls_by_ways(stretch)])


def rises(stretch):
    """How many pairs of the stretch rise."""
    return pairs_among(stretch[2] - stretch[1]) - falls(stretch) - alike(stretch)


def alike(stretch):
    """How many pairs of the stretch are alike."""
    many = stretch[2] - stretch[1]
    if many < 2:
        return 0
    if stretch[0][0] == "many":
        return pairs_among(many)
    return alike(led_stretch(stretch, (0,))) + alike(led_stretch(stretch, (1,)))


def pairs_among(many):
    """How many pairs so many places have."""
    return many * (many - 1) // 2


def falls_by_ways(stretch):
    """The list of (way, many), sorted by ways, of how many pairs fall at each way, where any do."""
    return falls_from(stretch, ())


def falls_from(stretch, way):
    """The same list of a stretch that has been led by the way."""
    if stretch[2] - stretch[1] < 2 or stretch[0][0] == "many":
        return []
    own = crossed(stretch[0][1], stretch[1], stretch[2])
    # A way sorts ahead of all that go on from it, and those by a 0 ahead of those by a 1.
    found = [(way, own)] if own > 0 else []
    for turn in (0, 1):
        found.extend(falls_from(led_stretch(stretch, (turn,)), way + (turn,)))
    return found
