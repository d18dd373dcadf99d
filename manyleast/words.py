"""Single words of a desk's rows, read; one that isn't written as it should be is refused with NoRow."""

from manyleast.errors import NoRow, NoText
from manyleast.texts import read_number, read_paper


def number_of(word):
    """Any whole number, or NoRow."""
    try:
        return read_number(word)
    except NoText:
        raise NoRow("a word is no whole number") from None


def count_of(word):
    """A whole number from 0 on, or NoRow."""
    number = number_of(word)
    if number < 0:
        raise NoRow("a number that is to be from 0 on is below 0")
    return number


def part_of(word):
    """A whole number from 1 on, or NoRow."""
    number = number_of(word)
    if number < 1:
        raise NoRow("a part is from 1 on")
    return number


def spot_of(word):
    """A stretch M:S:E as the tuple (make, start, end), or NoRow."""
    pieces = word.split(":")
    if len(pieces) != 3:
        raise NoRow("a stretch is written M:S:E")
    return tuple([count_of(piece) for piece in pieces])


def spots_of(word):
    """A gathering as the list of its stretches (make, start, end), or NoRow."""
    pieces = word.split("+")
    if len(pieces) > 8:
        raise NoRow("a gathering has one to eight stretches")
    return [spot_of(piece) for piece in pieces]


def counted_of(word):
    """WORTH:MANY as the tuple (worth, many), or NoRow."""
    pieces = word.split(":")
    if len(pieces) != 2:
        raise NoRow("a worth with its many is written WORTH:MANY")
    return (number_of(pieces[0]), count_of(pieces[1]))


def next_of(word):
    """What up is answered by, None or (worth, many), or NoRow."""
    return None if word == "-" else counted_of(word)


def list_of(word):
    """What often is answered by, a list of (worth, many), or NoRow."""
    return [] if word == "-" else [counted_of(piece) for piece in word.split(",")]


def paper_of(word):
    """A paper, or NoRow where the word has no signs, or NoText."""
    if word == "":
        raise NoRow("a word has no signs")
    return read_paper(word)
