"""Trees: rows of worths parted by halves of worth, over and over."""

from manyleast.bounds import is_turn, is_whole, many_worths, where
from manyleast.errors import Beyond, NoSuch
from manyleast.marks import ahead


def tree_of(bounds, row):
    """The tree of the row, or Beyond with the first number that isn't within."""
    for number in row:
        if where(bounds, number) != "within":
            raise Beyond(number)
    return grown(bounds[0], many_worths(bounds[1]), row)


def grown(least, many, row):
    """The tree of a row of worths out of so many, from the least one on."""
    if len(row) == 0:
        return None
    if many == 1:
        return ("many", len(row))
    half = many // 2
    middle = least + half
    marks = tuple([0 if number < middle else 1 for number in row])
    lower = grown(least, half, [number for number in row if number < middle])
    upper = grown(middle, half, [number for number in row if number >= middle])
    return ("part", marks, lower, upper)


def is_tree(levels, thing):
    """Whether the thing is the tree, by these levels, of a row."""
    return has_top(levels, thing) and has_halves(levels, thing)


def has_top(levels, thing):
    """Whether the thing is like a tree, as far as its halves aren't looked at."""
    if thing is None:
        return True
    if not isinstance(thing, tuple):
        return False
    if levels == 0:
        return is_many(thing)
    return is_part(thing)


def is_many(thing):
    """Whether the tuple is "many" with a whole number above 0."""
    return len(thing) == 2 and is_word(thing[0], "many") and is_whole(thing[1]) and thing[1] > 0


def is_part(thing):
    """Whether the tuple is "part" with one mark or more and any two halves."""
    return len(thing) == 4 and is_word(thing[0], "part") and is_marks(thing[1]) and len(thing[1]) > 0


def is_word(thing, word):
    """Whether the thing is this text."""
    # Things of other kinds are never compared: they may compare as they like.
    return isinstance(thing, str) and thing == word


def is_marks(thing):
    """Whether the thing is a tuple of noughts and ones."""
    return isinstance(thing, tuple) and all([is_turn(mark) for mark in thing])


def has_halves(levels, thing):
    """Whether the halves of a thing with a right top are trees that fit its marks."""
    if thing is None or levels == 0:
        return True
    for mark in (0, 1):
        half = half_of(thing, mark)
        # Sizes come ahead of what lies beneath, so the walk never grows beyond the marks.
        if not has_top(levels - 1, half) or size_of(half) != thing[1].count(mark):
            return False
        if not has_halves(levels - 1, half):
            return False
    return True


def half_of(tree, mark):
    """The lower tree for a 0, the upper one for a 1; None where there is none."""
    if tree is None or tree[0] == "many":
        return None
    return tree[2 + mark]


def size_of(tree):
    """How many numbers the tree has."""
    if tree is None:
        return 0
    if tree[0] == "many":
        return tree[1]
    return len(tree[1])


def row_of(bounds, tree):
    """The row of the tree."""
    return row_from(bounds[0], many_worths(bounds[1]), tree)


def row_from(least, many, tree):
    """The row of a tree of worths out of so many, from the least one on."""
    if tree is None:
        return []
    if tree[0] == "many":
        return [least] * tree[1]
    half = many // 2
    lower = row_from(least, half, tree[2])
    upper = row_from(least + half, half, tree[3])
    return merged(tree[1], lower, upper)


def merged(marks, lower, upper):
    """The numbers of both lists, each list in its order, as the marks tell."""
    row = []
    ones = 0
    for place, mark in enumerate(marks):
        # All marks so far that are no ones are noughts, so one count does for both lists.
        row.append(upper[ones] if mark == 1 else lower[place - ones])
        ones = ones + mark
    return row


def number_at(bounds, tree, place):
    """The number at the place of the tree's row, or NoSuch."""
    if place < 0 or place >= size_of(tree):
        raise NoSuch("there is no such place in the row")
    least = bounds[0]
    many = many_worths(bounds[1])
    part = tree
    inner = place
    while part[0] == "part":
        many = many // 2
        mark = part[1][inner]
        inner = ahead(part[1], mark, inner)
        least = least + mark * many
        part = half_of(part, mark)
    return least
