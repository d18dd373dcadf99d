"""The rows that a desk is told, read into what they name."""

from manyleast.errors import NoRow
from manyleast.words import count_of, counted_of, list_of, next_of, number_of, paper_of, part_of, spot_of, spots_of

# By a row's first word, the kinds of those behind it; "row" itself, with any many numbers, is not among them.
FORMS = {
    "put": ("count", "count", "number"),
    "take": ("count", "count"),
    "set": ("count", "count", "number"),
    "cut": ("count", "count", "count"),
    "join": ("count", "count"),
    "turn": ("count",),
    "flip": ("count",),
    "show": ("count",),
    "least": ("gathering", "count"),
    "below": ("gathering", "number"),
    "between": ("gathering", "number", "number"),
    "falls": ("stretch",),
    "up": ("gathering", "number"),
    "down": ("gathering", "number"),
    "most": ("gathering",),
    "often": ("gathering", "part"),
}

# Of the rows that have papers, the kind of what is told.
TOLD = {"least": "number", "below": "count", "most": "counted", "often": "list", "up": "next"}


def read_said(row):
    """The tuple (lead, name, values) of a row, lead "paper", "shows" or the text without signs; or NoRow, NoText."""
    if not isinstance(row, str):
        raise NoRow("what is no text is no row")
    words = row.split(" ")
    lead = words[0] if words[0] in ("paper", "shows") else ""
    if lead != "":
        words = words[1:]
    name = words[0] if len(words) > 0 else ""
    return (lead, name, values_of(kinds_of(lead, name, len(words) - 1), words[1:]))


def kinds_of(lead, name, many):
    """The kinds of the words behind the name, of which there are so many, or NoRow."""
    if lead == "" and name == "row":
        return ("number",) * many
    if name not in FORMS or (lead != "" and name not in TOLD):
        raise NoRow("there is no such row")
    if lead == "shows":
        return FORMS[name] + (TOLD[name], "paper")
    return FORMS[name]


def values_of(kinds, words):
    """What the words stand for, each by its kind, or NoRow, NoText."""
    if len(words) != len(kinds):
        raise NoRow("the row has too few words or too many")
    # A paper is the last word of its row, so its text is refused behind all other words.
    return [value_of(kind, word) for kind, word in zip(kinds, words)]


def value_of(kind, word):
    """What a word of this kind stands for, or NoRow, NoText."""
    if kind == "count":
        return count_of(word)
    if kind == "number":
        return number_of(word)
    if kind == "part":
        return part_of(word)
    if kind == "stretch":
        return spot_of(word)
    if kind == "gathering":
        return spots_of(word)
    if kind == "counted":
        return counted_of(word)
    if kind == "next":
        return next_of(word)
    if kind == "list":
        return list_of(word)
    return paper_of(word)
