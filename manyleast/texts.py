"""Whole numbers, rows and papers as texts, written and read again."""

from manyleast.errors import NoText

FIGURES = "0123456789"


def show_number(number):
    """The text of a whole number."""
    return str(number)


def show_row(row):
    """The text of a row: its numbers with single blanks between."""
    return " ".join([show_number(number) for number in row])


def show_paper(paper):
    """The text of a paper: its many, and of a split in brackets its two papers."""
    many = show_number(paper[1])
    if paper[0] == "all":
        return many
    lower = show_paper(paper[2])
    upper = show_paper(paper[3])
    return f"{many}({lower},{upper})"


def read_number(text):
    """The whole number that is written so, or NoText."""
    if not isinstance(text, str):
        raise NoText("what is no text is no number")
    figures = text[1:] if text.startswith("-") else text
    if text == "-0" or not are_figures(figures):
        raise NoText("the text is no whole number")
    return int(text)


def are_figures(text):
    """Whether the text is one figure to fifty, no nought ahead but in 0 itself."""
    if not 1 <= len(text) <= 50 or (text[0] == "0" and text != "0"):
        return False
    # Python's own word for figures lets by those of other scripts, too.
    return all([sign in FIGURES for sign in text])


def read_row(text):
    """The row that is written so, or NoText."""
    if not isinstance(text, str):
        raise NoText("what is no text is no row")
    if text == "":
        return []
    return [read_number(word) for word in text.split(" ")]


def read_paper(text):
    """The paper that is written so, or NoText."""
    if not isinstance(text, str):
        raise NoText("what is no text is no paper")
    told = read_paper_from(text, 0, 0)
    if told[1] != len(text):
        raise NoText("there is something behind the paper")
    return told[0]


def read_paper_from(text, start, depth):
    """The tuple of the paper that begins at the start, this deep in brackets, and the place behind it, or NoText."""
    end = start
    while end < len(text) and text[end] in FIGURES:
        end = end + 1
    many = read_number(text[start:end])
    if text[end:end + 1] != "(":
        return (("all", many), end)
    if depth == 100:
        raise NoText("the brackets are more than a hundred deep")
    lower = read_paper_from(text, end + 1, depth + 1)
    upper = read_paper_from(text, place_behind(text, lower[1], ","), depth + 1)
    return (("split", many, lower[0], upper[0]), place_behind(text, upper[1], ")"))


def place_behind(text, place, sign):
    """The place behind the sign that stands at the place, or NoText."""
    if text[place:place + 1] != sign:
        raise NoText("a paper's brackets and comma are not as they should be")
    return place + 1
