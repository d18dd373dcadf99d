"""What several tests share: drawn bounds, rows, gatherings, papers and makes, plain answers, strange things."""

import random

from manyleast.errors import Beyond, LeastError, NoBounds, NoRow, NoSuch, NoText, TooMany

REFUSALS = (Beyond, NoSuch, NoBounds, TooMany, NoText, NoRow)
FAR = 10 ** 50 - 1


class Sour:
    """Refuses to be compared, counted, walked or taken for a truth."""

    def sour(self, *others):
        raise RuntimeError("asked")

    __eq__ = __ne__ = __lt__ = __le__ = __gt__ = __ge__ = sour
    __len__ = __bool__ = __iter__ = __getitem__ = __hash__ = sour
    __int__ = __index__ = __contains__ = sour


def nested(depth, leaf):
    thing = leaf
    for level in range(depth):
        thing = (thing,) if level % 2 else [thing]
    return thing


def strange():
    """Things that are no tuples of numbers, and no whole numbers either; None is the last one."""
    return [
        True, False, "", "0", "01", b"01", 0.0, 1.0, 3.5, float("nan"), float("inf"), 1j,
        [], [0, 3], {}, {0: 3}, set(), {0, 1}, frozenset([0, 3]), range(2), object(), Sour(), int, len,
        nested(100, 0), [0] * 20000, (0,) * 20000, {k: k for k in range(10000)}, Ellipsis, NotImplemented, None,
    ]


def refused(case, kind, call, *handed):
    """The refusal of the call, which is of this kind, a LeastError, a ValueError, and no other refusal."""
    with case.assertRaises(kind) as taken:
        call(*handed)
    case.assertIsInstance(taken.exception, LeastError)
    case.assertIsInstance(taken.exception, ValueError)
    for other in REFUSALS:
        case.assertEqual(isinstance(taken.exception, other), other is kind)
    return taken.exception


def same(one, other):
    """Whether both are equal, of the very same kinds throughout: a truth is no number there, a list no tuple."""
    if type(one) is not type(other):
        return False
    if isinstance(one, (list, tuple)):
        return len(one) == len(other) and all(same(*pair) for pair in zip(one, other))
    return one == other


# Bounds and rows.

def drawn_low(dice):
    figures = dice.randint(1, 40)
    return dice.choice((1, -1)) * dice.randint(10 ** (figures - 1) if figures > 1 else 0, 10 ** figures - 1)


def drawn_bounds(dice):
    """Levels at the ends and small ones come more often than the others."""
    levels = dice.choice((0, 1, 2, 3, 4, 5, 40, dice.randint(0, 40), dice.randint(0, 40)))
    return (dice.choice((drawn_low(dice), dice.randint(-9, 9), 10 ** 40 - 1, 1 - 10 ** 40)), levels)


def top(bounds):
    return bounds[0] + 2 ** bounds[1] - 1


def drawn_worth(dice, bounds):
    return dice.randint(bounds[0], top(bounds))


def drawn_row(dice, bounds, length=None):
    """Any worths, or out of one to four, near one another, in order."""
    if length is None:
        length = dice.choice((0, 1, 2, dice.randint(0, 12), dice.randint(0, 12), dice.randint(0, 60)))
    form = dice.choice(("any", "few", "near", "rising", "falling"))
    if form == "few":
        worths = [drawn_worth(dice, bounds) for turn in range(dice.randint(1, 4))]
        return [dice.choice(worths) for turn in range(length)]
    if form == "near":
        middle = drawn_worth(dice, bounds)
        return [dice.randint(max(bounds[0], middle - 3), min(top(bounds), middle + 3)) for turn in range(length)]
    row = [drawn_worth(dice, bounds) for turn in range(length)]
    return row if form == "any" else sorted(row, reverse=form == "falling")


def long_row(dice, bounds):
    """65 to 300 numbers of few worths."""
    worths = [drawn_worth(dice, bounds) for turn in range(dice.randint(1, 6))]
    return [dice.choice(worths) for turn in range(dice.randint(65, 300))]


def turns_of(bounds, number):
    """The full way of a worth: the figures, written by twos, of how far above low it is."""
    return tuple((number - bounds[0]) >> (bounds[1] - 1 - depth) & 1 for depth in range(bounds[1]))


def drawn_ways(dice, bounds, rows):
    """Ways of any length: of numbers that stand, of others, and the longest and the shortest ones."""
    numbers = [dice.choice(row) for row in rows if row for turn in range(3)]
    numbers += [drawn_worth(dice, bounds), drawn_worth(dice, bounds), bounds[0], top(bounds)]
    ways = [()]
    for number in numbers:
        full = turns_of(bounds, number)
        ways += [full, full[:dice.randint(0, bounds[1])]]
    return ways


# Plain answers.

def plain_tree(bounds, row):
    """The tree as point 7 tells it, built from the full ways of the numbers."""
    return tree_of_turns(bounds[1], [turns_of(bounds, number) for number in row])


def tree_of_turns(levels, ways):
    if not ways:
        return None
    if levels == 0:
        return ("many", len(ways))
    halves = [tree_of_turns(levels - 1, [way[1:] for way in ways if way[0] == turn]) for turn in (0, 1)]
    return ("part", tuple(way[0] for way in ways), halves[0], halves[1])


def lies_at(bounds, way, number):
    return turns_of(bounds, number)[:len(way)] == way


def places_at(bounds, row, way):
    """The places of the row whose numbers lie in the way's span."""
    return [place for place, number in enumerate(row) if lies_at(bounds, way, number)]


def bounds_at(bounds, way):
    """The bounds whose worths are those of the way's span."""
    levels = bounds[1] - len(way)
    return (bounds[0] + sum(turn << (bounds[1] - 1 - depth) for depth, turn in enumerate(way)), levels)


# Gatherings: told as spots (row's number, start, end), so that plain answers need no tree.

def drawn_spots(dice, rows):
    spots = []
    for turn in range(dice.randint(1, 8)):
        number = dice.randrange(len(rows))
        length = len(rows[number])
        start = dice.randint(0, length)
        spots.append(dice.choice((
            (number, 0, length), (number, start, start), (number, start, dice.randint(start, length)),
            (number, start, dice.randint(start, length)), dice.choice(spots or [(number, start, length)]),
        )))
    return spots


def drawn_case(dice, turn):
    """Bounds, one to three rows, spots of them, and the gathering of these; some rows long, some alike."""
    bounds = drawn_bounds(dice)
    rows = [drawn_row(dice, bounds) for number in range(dice.randint(1, 3))]
    if turn % 10 == 0:
        rows[0] = long_row(dice, bounds)
    if turn % 5 == 1:
        rows[-1] = list(rows[0])
    spots = drawn_spots(dice, rows)
    return bounds, rows, spots, gathered(bounds, rows, spots)


def gathered(bounds, rows, spots):
    trees = [plain_tree(bounds, row) for row in rows]
    return [(trees[number], start, end) for number, start, end in spots]


def things_of(rows, spots):
    """All things (worth, j, place), sorted."""
    return sorted(
        (rows[number][place], j, place)
        for j, (number, start, end) in enumerate(spots) for place in range(start, end)
    )


def drawn_cases(seed, many):
    """So many drawn gatherings, with the dice, and with all their things sorted."""
    dice = random.Random(seed)
    for turn in range(many):
        bounds, rows, spots, gathering = drawn_case(dice, turn)
        yield dice, bounds, rows, spots, gathering, things_of(rows, spots)


def some_of(dice, things, many):
    """The first, the last and some others, with their k."""
    ks = {0, len(things) - 1} | {dice.randrange(len(things)) for turn in range(many)} if things else set()
    return [(k, things[k]) for k in sorted(ks)]


def some_numbers(dice, bounds, things):
    """Numbers that stand, beside them, at the bounds' ends, far off."""
    told = [bounds[0], bounds[0] - 1, bounds[0] + 1, top(bounds), top(bounds) - 1, top(bounds) + 1]
    told += [drawn_worth(dice, bounds), 0, FAR, -FAR]
    for k, thing in some_of(dice, things, 3):
        told += [thing[0] - 1, thing[0], thing[0] + 1]
    return told


def plain_worths(things):
    """The rising (worth, many) of things, by going through all of them."""
    counted = {}
    for thing in things:
        counted[thing[0]] = counted.get(thing[0], 0) + 1
    return sorted(counted.items())


def plain_most(things):
    """The (worth, many) that comes most, or None."""
    return min(plain_worths(things), key=lambda counted: (-counted[1], counted[0]), default=None)


def plain_often(things, part):
    return [(worth, many) for worth, many in plain_worths(things) if many * part > len(things)]


def some_parts(dice, things):
    """1, 2, 3, some more, those at which a worth of the things just isn't often yet and is, great ones."""
    edges = [len(things) // many for worth, many in plain_worths(things)]
    parts = {1, 2, 3, 4, dice.randint(5, 9), dice.randint(5, 40), 1000, FAR}
    parts |= {len(things) - 1, len(things), len(things) + 1, 2 * len(things)}
    parts |= {edge + more for edge in edges for more in (-1, 0, 1)}
    return sorted(part for part in parts if part > 0)


def plain_up(things, number):
    above = [counted for counted in plain_worths(things) if counted[0] > number]
    return above[0] if above else None


def plain_down(things, number):
    beneath = [counted for counted in plain_worths(things) if counted[0] < number]
    return beneath[-1] if beneath else None


# Papers: told by the ways at which they split, so that their counts are reckoned from the plain things.

def plain_paper(bounds, things, splits):
    """The paper that splits at these ways, each many counted in the things."""
    return paper_of_turns((), [turns_of(bounds, thing[0]) for thing in things], splits)


def paper_of_turns(way, full_ways, splits):
    if way not in splits:
        return ("all", len(full_ways))
    halves = [
        paper_of_turns(way + (turn,), [full for full in full_ways if full[len(way)] == turn], splits)
        for turn in (0, 1)
    ]
    return ("split", len(full_ways), halves[0], halves[1])


def splits_of(paper, way=()):
    """The ways at which the paper splits."""
    if paper[0] == "all":
        return set()
    return {way} | splits_of(paper[2], way + (0,)) | splits_of(paper[3], way + (1,))


def closed_ways(splits):
    """The ways at which a paper with these splits is closed."""
    ways = [way + (turn,) for way in splits for turn in (0, 1)] + [()]
    return sorted(way for way in ways if way not in splits)


def splits_towards(bounds, numbers):
    """The splits by which the full way of each number comes to be closed."""
    return {turns_of(bounds, number)[:depth] for number in numbers for depth in range(bounds[1])}


def closed_at(splits, way):
    """The splits without that at the way and those behind it."""
    return {other for other in splits if other[:len(way)] != way}


def drawn_splits(dice, bounds, numbers, many=4):
    """Splits towards some of the numbers, whole or in part, then so many others one after the other, or fewer."""
    chosen = [number for number in numbers if bounds[0] <= number <= top(bounds) and dice.random() < 0.8]
    splits = splits_towards(bounds, chosen)
    for turn in range(dice.choice((0, 0, 1, 3))):
        if splits:
            splits = closed_at(splits, dice.choice(sorted(splits)))
    for turn in range(dice.randint(0, many)):
        open_ways = [way for way in closed_ways(splits) if len(way) < bounds[1]]
        if open_ways:
            splits = splits | {dice.choice(open_ways)}
    return splits


def all_splits(levels, way=()):
    """The splits of every paper by these levels."""
    told = [frozenset()]
    if levels > 0:
        uppers = all_splits(levels - 1, way + (1,))
        told += [{way} | lower | upper for lower in all_splits(levels - 1, way + (0,)) for upper in uppers]
    return told


class Part:
    """A closed part: its way, its span, how many things it has."""

    def __init__(self, bounds, way, many):
        inner = bounds_at(bounds, way)
        self.way, self.least, self.greatest, self.many = way, inner[0], top(inner), many
        self.is_full = len(way) == bounds[1]


def closed_parts_of(bounds, paper, way=()):
    if paper[0] == "all":
        return [Part(bounds, way, paper[1])]
    lower = closed_parts_of(bounds, paper[2], way + (0,))
    return lower + closed_parts_of(bounds, paper[3], way + (1,))


def paper_text(paper):
    """The text of a paper, as point 24 tells it."""
    many = "%d" % paper[1]
    return many if paper[0] == "all" else many + "(" + paper_text(paper[2]) + "," + paper_text(paper[3]) + ")"


# What a paper that is kept shows, by its closed parts: the sentences of point 18, one after the other.

def its_part(parts, worth):
    """The closed full way of the worth, or None."""
    return next((part for part in parts if part.is_full and part.least == worth), None)


def by_parts_below(parts, number, many):
    held = [part for part in parts if part.many > 0]
    beneath = [part for part in held if part.greatest < number]
    beyond = [part for part in held if part.least >= number]
    return len(beneath) + len(beyond) == len(held) and sum(part.many for part in beneath) == many


def by_parts_least(parts, k, worth):
    own = its_part(parts, worth)
    if own is None:
        return False
    lesser = sum(part.many for part in parts if part.greatest < worth)
    return lesser <= k and lesser + own.many > k


def by_parts_most(parts, worth, many):
    own = its_part(parts, worth)
    if own is None or own.many != many or many <= 0:
        return False
    fewer = all(part.many < many for part in parts if part.greatest < worth)
    return fewer and all(part.many <= many for part in parts if part.least > worth)


def by_parts_often(parts, part, told):
    whole = sum(closed.many for closed in parts)
    above = [closed for closed in parts if closed.many * part > whole]
    return all(closed.is_full for closed in above) and told == sorted((closed.least, closed.many) for closed in above)


def by_parts_up(parts, number, told):
    held = [part for part in parts if part.many > 0]
    if told is None:
        return all(part.greatest <= number for part in held)
    own = its_part(parts, told[0])
    if told[0] <= number or own is None or own.many != told[1] or told[1] <= 0:
        return False
    return all(part.greatest <= number or part.least > told[0] for part in held if part is not own)


# Pairs.

def plain_pairs(numbers):
    """How many pairs of places fall, rise and are alike, counted one by one."""
    falls = rises = alike = 0
    for greater, behind in enumerate(numbers):
        for ahead in numbers[:greater]:
            falls += ahead > behind
            rises += ahead < behind
            alike += ahead == behind
    return (falls, rises, alike)


# Makes: told as plain rows, by their numbers.

DOINGS = {
    "row": "of_row", "put": "put_in", "take": "taken_out", "set": "set_at",
    "cut": "cut_out", "join": "joined", "turn": "turned", "flip": "flipped",
}


class Doing:
    """A doing by its word, what is handed in, the row that comes of it, and the makes that are named."""

    def __init__(self, word, handed, row, sources):
        self.word, self.handed, self.row, self.sources = word, handed, row, sources

    def done(self, makes):
        """The number that the makes tell."""
        handed = [list(self.handed)] if self.word == "row" else self.handed
        return getattr(makes, DOINGS[self.word])(*handed)

    def text(self):
        """The row of words that a desk is told."""
        return " ".join([self.word] + [str(number) for number in self.handed])


def flip_of(bounds, row):
    return [bounds[0] + top(bounds) - number for number in row]


def drawn_doing(dice, bounds, rows):
    """A doing on any of the makes with these rows."""
    make, other = dice.randrange(len(rows)), dice.randrange(len(rows))
    if dice.random() < 0.2:
        other = make
    row = rows[make]
    place, start, number = dice.randint(0, len(row)), dice.randint(0, len(row)), drawn_worth(dice, bounds)
    end = dice.choice((start, len(row), dice.randint(start, len(row))))
    fresh = drawn_row(dice, bounds, dice.randint(0, 12))
    told = [
        Doing("row", fresh, fresh, []),
        Doing("put", (make, place, number), row[:place] + [number] + row[place:], [make]),
        Doing("cut", (make, start, end), row[start:end], [make]),
        Doing("turn", (make,), row[::-1], [make]),
        Doing("flip", (make,), flip_of(bounds, row), [make]),
    ]
    if place < len(row):
        told.append(Doing("take", (make, place), row[:place] + row[place + 1:], [make]))
        told.append(Doing("set", (make, place, number), row[:place] + [number] + row[place + 1:], [make]))
    if len(row + rows[other]) <= 60:
        told.append(Doing("join", (make, other), row + rows[other], [make, other]))
    return dice.choice(told)


def drawn_doings(dice, bounds, many):
    """So many doings, one behind the other, and the rows of all makes with them."""
    rows, told = [[]], []
    for turn in range(many):
        told.append(drawn_doing(dice, bounds, rows))
        rows.append(told[-1].row)
    return told, rows


# A desk's words.

def spots_text(spots):
    """A gathering's word: spots are (make, start, end)."""
    return "+".join("%d:%d:%d" % spot for spot in spots)


def counted_text(counted):
    return "-" if counted is None else "%d:%d" % counted


def list_text(told):
    return ",".join(counted_text(counted) for counted in told) or "-"


def desk_rows(desk, many):
    """The rows of so many makes, as the desk shows them."""
    return [desk.say(f"show {make}") for make in range(many)]
