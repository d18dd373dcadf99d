"""Makes of rows by bounds: numbered as they come, and each one stays."""

from manyleast.changes import put_in, set_at, taken_out
from manyleast.errors import NoSuch, TooMany
from manyleast.joins import cut_out, flipped, joined, turned
from manyleast.trees import row_of, size_of, tree_of


class Makes:
    """Makes kept by bounds; make 0 is the empty row."""

    def __init__(self, bounds):
        self.bounds = bounds
        self.kept = []
        self.keep(None, ())

    def of_row(self, row):
        """The number of a new make of the row, or Beyond."""
        return self.keep(tree_of(self.bounds, row), ())

    def put_in(self, make, place, number):
        """The number of a new make, with the number put in at the place, or NoSuch, Beyond, TooMany."""
        tree = put_in(self.bounds, self.tree(make), place, number)
        return self.keep(not_too_many(tree), (make,))

    def taken_out(self, make, place):
        """The number of a new make, without the number at the place, or NoSuch."""
        told = taken_out(self.bounds, self.tree(make), place)
        return self.keep(told[0], (make,))

    def set_at(self, make, place, number):
        """The number of a new make, with the number set at the place, or NoSuch, Beyond."""
        return self.keep(set_at(self.bounds, self.tree(make), place, number), (make,))

    def cut_out(self, make, start, end):
        """The number of a new make of the make's stretch, or NoSuch."""
        return self.keep(cut_out(self.stretch(make, start, end)), (make,))

    def joined(self, one, other):
        """The number of a new make of the one make's row and behind it the other one's, or NoSuch, TooMany."""
        tree = joined(self.tree(one), self.tree(other))
        return self.keep(not_too_many(tree), (one, other))

    def turned(self, make):
        """The number of a new make of the row from the last number to the first, or NoSuch."""
        return self.keep(turned(self.tree(make)), (make,))

    def flipped(self, make):
        """The number of a new make of the row with low and top, less the number, for each number, or NoSuch."""
        return self.keep(flipped(self.tree(make)), (make,))

    def many(self):
        """How many makes there are."""
        return len(self.kept)

    def tree(self, make):
        """The tree of the make, or NoSuch."""
        return self.found(make)[0]

    def row(self, make):
        """The row of the make, or NoSuch."""
        return row_of(self.bounds, self.tree(make))

    def came_of(self, make):
        """The list of the makes of which this one was made, or NoSuch."""
        return list(self.found(make)[1])

    def stretch(self, make, start, end):
        """The stretch of the make's row, or NoSuch."""
        tree = self.tree(make)
        if not 0 <= start <= end <= size_of(tree):
            raise NoSuch("there is no such stretch of the make")
        return (tree, start, end)

    def found(self, make):
        """What is kept of the make: its tree, and of which ones it came; or NoSuch."""
        if make < 0 or make >= len(self.kept):
            raise NoSuch("there is no such make")
        return self.kept[make]

    def keep(self, tree, sources):
        """The number of a new make with this tree, which came of these ones."""
        self.kept.append((tree, sources))
        return len(self.kept) - 1


def not_too_many(tree):
    """The tree itself, or TooMany where it has more than 1,000 numbers."""
    if size_of(tree) > 1000:
        raise TooMany("the row would have more than 1,000 numbers")
    return tree
