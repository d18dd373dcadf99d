"""The parts of a tree by their ways, and how many numbers lie at each."""

from manyleast.trees import half_of, size_of


def part_at(tree, way):
    """The part of the tree that the way comes to, None where there is none."""
    part = tree
    for turn in way:
        part = half_of(part, turn)
    return part


def counts_at(tree, levels, depth):
    """The sorted list of (way, many) of all parts at ways of this length."""
    if depth < 0 or depth > levels:
        return []
    parts = [((), tree)]
    for step in range(depth):
        parts = halved(parts)
    return [(way, size_of(part)) for way, part in parts if part is not None]


def halved(parts):
    """The halves of sorted parts with their ways, those that there are, sorted too."""
    halves = []
    for way, part in parts:
        for turn in (0, 1):
            half = half_of(part, turn)
            if half is not None:
                halves.append((way + (turn,), half))
    return halves
