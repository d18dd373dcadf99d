"""What a desk answers of a gathering: plain answers, told papers, and whether a paper shows what is told."""

from manyleast.asks import below, between, nth_least
from manyleast.often import most, often
from manyleast.papers import shows_below, shows_least, shows_most, shows_often, shows_up
from manyleast.tellers import paper_below, paper_least, paper_most, paper_often, paper_up
from manyleast.texts import show_number, show_paper, show_row
from manyleast.ups import next_down, next_up


def answer(bounds, gathering, lead, name, values):
    """The text that answers the row with this lead and name, and these values behind its gathering, or NoSuch."""
    if lead == "paper":
        return show_paper(told_paper_of(bounds, gathering, name, values))
    if lead == "shows":
        return "yes" if is_shown(bounds, gathering, name, values) else "no"
    return plain_answer(bounds, gathering, name, values)


def plain_answer(bounds, gathering, name, values):
    """The text that answers a row without a lead, or NoSuch."""
    if name == "least":
        return show_row(list(nth_least(bounds, gathering, values[0])))
    if name == "below":
        return show_number(below(bounds, gathering, values[0]))
    if name == "between":
        return show_number(between(bounds, gathering, values[0], values[1]))
    if name == "up":
        return show_counted(next_up(bounds, gathering, values[0]))
    if name == "down":
        return show_counted(next_down(bounds, gathering, values[0]))
    if name == "most":
        return show_counted(most(bounds, gathering))
    return show_list(often(bounds, gathering, values[0]))


def show_counted(counted):
    """The text WORTH:MANY, or "-" of None."""
    if counted is None:
        return "-"
    return ":".join([show_number(number) for number in counted])


def show_list(told):
    """The texts WORTH:MANY with commas between, or "-" of none."""
    if len(told) == 0:
        return "-"
    return ",".join([show_counted(counted) for counted in told])


def told_paper_of(bounds, gathering, name, values):
    """The told paper of what the row asks, or NoSuch."""
    if name == "least":
        return paper_least(bounds, gathering, values[0])
    if name == "below":
        return paper_below(bounds, gathering, values[0])
    if name == "most":
        return paper_most(bounds, gathering)
    if name == "often":
        return paper_often(bounds, gathering, values[0])
    return paper_up(bounds, gathering, values[0])


def is_shown(bounds, gathering, name, values):
    """Whether the paper, the last value, shows the told thing, the one ahead of it."""
    told = values[-2]
    paper = values[-1]
    if name == "least":
        return shows_least(bounds, gathering, paper, values[0], told)
    if name == "below":
        return shows_below(bounds, gathering, paper, values[0], told)
    if name == "most":
        return shows_most(bounds, gathering, paper, told[0], told[1])
    if name == "often":
        return shows_often(bounds, gathering, paper, values[0], told)
    return shows_up(bounds, gathering, paper, values[0], told)
