"""The desk: it is told rows of words, keeps makes, and answers by texts."""

from manyleast.answers import answer
from manyleast.makes import Makes
from manyleast.pairs import falls
from manyleast.rows import read_said
from manyleast.texts import show_number, show_row


class Desk:
    """A desk that keeps makes by bounds."""

    def __init__(self, bounds):
        self.bounds = bounds
        self.makes = Makes(bounds)

    def say(self, row):
        """The answer to the row, or NoRow, NoText, NoSuch, Beyond, TooMany."""
        said = read_said(row)
        lead = said[0]
        name = said[1]
        values = said[2]
        if name == "show":
            return show_row(self.makes.row(values[0]))
        if name == "falls":
            return show_number(falls(self.stretch_at(values[0])))
        if name in ("least", "below", "between", "up", "down", "most", "often"):
            gathering = [self.stretch_at(spot) for spot in values[0]]
            return answer(self.bounds, gathering, lead, name, values[1:])
        return show_number(self.made(name, values))

    def stretch_at(self, spot):
        """The stretch of the spot (make, start, end), or NoSuch."""
        return self.makes.stretch(spot[0], spot[1], spot[2])

    def made(self, name, values):
        """The number of the new make that the row makes, or NoSuch, Beyond, TooMany."""
        if name == "row":
            return self.makes.of_row(values)
        if name == "put":
            return self.makes.put_in(values[0], values[1], values[2])
        if name == "take":
            return self.makes.taken_out(values[0], values[1])
        if name == "set":
            return self.makes.set_at(values[0], values[1], values[2])
        if name == "cut":
            return self.makes.cut_out(values[0], values[1], values[2])
        if name == "join":
            return self.makes.joined(values[0], values[1])
        if name == "turn":
            return self.makes.turned(values[0])
        return self.makes.flipped(values[0])
