"""Point 3: the whole, asked of makes cut out, joined, turned and flipped, by the functions and at a desk alike."""

import random
import unittest

from drawn import Doing, counted_text, drawn_bounds, drawn_doing, drawn_row, drawn_splits, drawn_spots, drawn_ways
from drawn import bounds_at, flip_of, list_text, paper_text, places_at, plain_down, plain_most, plain_often, plain_pairs
from drawn import plain_paper, plain_tree, plain_up, plain_worths, same, some_numbers, some_of, some_parts, splits_of
from drawn import spots_text, things_of, top
from manyleast.asks import below, between, nth_least, rank_of
from manyleast.desk import Desk
from manyleast.joins import wider
from manyleast.levels import counts_at, part_at
from manyleast.makes import Makes
from manyleast.often import most, often, worths_in
from manyleast.pairs import alike, falls, falls_by_ways, rises
from manyleast.papers import keeps, shows_below, shows_least, shows_most, shows_often, shows_up
from manyleast.places import first_place, last_place
from manyleast.stretches import many_in
from manyleast.tellers import paper_below, paper_least, paper_most, paper_often, paper_up
from manyleast.trees import is_tree, row_of, tree_of
from manyleast.ups import next_down, next_up, sum_of_least


def first_doings(dice, bounds):
    """Two rows, and of these one cut out, joined, turned and flipped."""
    one, other = drawn_row(dice, bounds, dice.randint(0, 12)), drawn_row(dice, bounds, dice.randint(2, 12))
    start = dice.randint(0, len(other) - 1)
    return [
        Doing("row", one, one, []),
        Doing("row", other, other, []),
        Doing("cut", (2, start, len(other)), other[start:], [2]),
        Doing("join", (3, 1), other[start:] + one, [3, 1]),
        Doing("turn", (4,), (other[start:] + one)[::-1], [4]),
        Doing("flip", (5,), flip_of(bounds, (other[start:] + one)[::-1]), [5]),
    ]


class Kept:
    """Makes and a desk, done to alike, with the plain rows."""

    def __init__(self, dice, bounds):
        self.dice, self.bounds = dice, bounds
        self.makes, self.desk, self.rows = Makes(bounds), Desk(bounds), [[]]
        for doing in first_doings(dice, bounds):
            self.do(doing)

    def do(self, doing):
        number = doing.done(self.makes)
        assert (number, self.desk.say(doing.text())) == (len(self.rows), str(number)), doing.text()
        self.rows.append(doing.row)

    def do_more(self, many):
        for turn in range(many):
            self.do(drawn_doing(self.dice, self.bounds, self.rows))

    def asked(self, spots):
        """A gathering's word, its trees, and its things in order."""
        gathering = [(self.makes.tree(make), start, end) for make, start, end in spots]
        return spots_text(spots), gathering, things_of(self.rows, spots)


def drawn_kept(seed, many, more=4):
    dice = random.Random(seed)
    for turn in range(many):
        kept = Kept(dice, drawn_bounds(dice))
        kept.do_more(more)
        yield dice, kept.bounds, kept


class Answers(unittest.TestCase):
    def check(self, kept, told, right, text, row):
        """What a function tells, and what the desk answers."""
        self.assertTrue(same(told, right), (kept.bounds, row))
        self.assertTrue(same(kept.desk.say(row), text), (kept.bounds, row))

    def test_all_things_in_order(self):
        for dice, bounds, kept in drawn_kept(201, 40):
            word, gathering, things = kept.asked(drawn_spots(dice, kept.rows))
            self.assertEqual(many_in(gathering), len(things))
            for k, thing in enumerate(things) if len(things) < 40 else some_of(dice, things, 10):
                self.check(kept, nth_least(bounds, gathering, k), thing, "%d %d %d" % thing, f"least {word} {k}")
                self.assertEqual(rank_of(bounds, gathering, thing[1], thing[2]), k)
                self.assertEqual(sum_of_least(bounds, gathering, k), sum(other[0] for other in things[:k]))

    def test_by_numbers(self):
        for dice, bounds, kept in drawn_kept(202, 40):
            word, gathering, things = kept.asked(drawn_spots(dice, kept.rows))
            worths = [thing[0] for thing in things]
            numbers = some_numbers(dice, bounds, things)
            for number in numbers:
                right = sum(worth < number for worth in worths)
                self.check(kept, below(bounds, gathering, number), right, str(right), f"below {word} {number}")
                high = dice.choice(numbers)
                right = sum(number <= worth <= high for worth in worths)
                row = f"between {word} {number} {high}"
                self.check(kept, between(bounds, gathering, number, high), right, str(right), row)
                right = plain_up(things, number)
                self.check(kept, next_up(bounds, gathering, number), right, counted_text(right), f"up {word} {number}")
                right = plain_down(things, number)
                told = next_down(bounds, gathering, number)
                self.check(kept, told, right, counted_text(right), f"down {word} {number}")

    def test_what_comes_often_is_told_all_and_nothing_else(self):
        for dice, bounds, kept in drawn_kept(203, 40):
            word, gathering, things = kept.asked(drawn_spots(dice, kept.rows))
            self.assertTrue(same(worths_in(bounds, gathering), plain_worths(things)))
            right = plain_most(things)
            self.check(kept, most(bounds, gathering), right, counted_text(right), f"most {word}")
            for part in some_parts(dice, things):
                right = plain_often(things, part)
                self.check(kept, often(bounds, gathering, part), right, list_text(right), f"often {word} {part}")

    def test_first_and_last_places(self):
        for dice, bounds, kept in drawn_kept(204, 40):
            for make, start, end in drawn_spots(dice, kept.rows):
                row, stretch = kept.rows[make], (kept.makes.tree(make), start, end)
                numbers = some_numbers(dice, bounds, [(number,) for number in row])
                for low, high in zip(dice.sample(numbers, 6), dice.sample(numbers, 6)):
                    places = [place for place in range(start, end) if low <= row[place] <= high]
                    self.assertEqual(first_place(bounds, stretch, low, high), min(places, default=None))
                    self.assertEqual(last_place(bounds, stretch, low, high), max(places, default=None))


class Papers(unittest.TestCase):
    def check(self, kept, things, ask, told, paper, shows):
        """The told paper shows, right papers show just where its splits stand in them, others show nothing."""
        dice, bounds, desk = kept.dice, kept.bounds, kept.desk
        self.assertTrue(shows(paper), (bounds, ask))
        self.assertTrue(same(desk.say(f"paper {ask}"), paper_text(paper)))
        splits = splits_of(paper)
        worths = [thing[0] for thing in things] or [bounds[0]]
        drawn = [drawn_splits(dice, bounds, dice.choices(worths, k=2)) for turn in range(3)]
        for other in drawn + [splits | more for more in drawn] + [splits]:
            right = plain_paper(bounds, things, other)
            is_shown = splits <= other
            self.assertEqual(shows(right), is_shown, (bounds, ask, right))
            self.assertEqual(desk.say(f"shows {ask} {told} {paper_text(right)}"), "yes" if is_shown else "no")
            wrong = plain_paper(bounds, things + things[:1] if things else [(bounds[0],)], other)
            self.assertFalse(shows(wrong))
            self.assertEqual(desk.say(f"shows {ask} {told} {paper_text(wrong)}"), "no")

    def test_below_and_up(self):
        for dice, bounds, kept in drawn_kept(205, 15):
            word, gathering, things = kept.asked(drawn_spots(dice, kept.rows))
            for number in dice.sample(some_numbers(dice, bounds, things), 6):
                many, found = below(bounds, gathering, number), next_up(bounds, gathering, number)
                paper = paper_below(bounds, gathering, number)
                self.check(kept, things, f"below {word} {number}", many, paper, lambda other: shows_below(
                    bounds, gathering, other, number, many))
                paper = paper_up(bounds, gathering, number)
                self.check(kept, things, f"up {word} {number}", counted_text(found), paper, lambda other: shows_up(
                    bounds, gathering, other, number, found))

    def test_least_and_most(self):
        for dice, bounds, kept in drawn_kept(206, 20):
            word, gathering, things = kept.asked(drawn_spots(dice, kept.rows))
            for k, thing in some_of(dice, things, 2):
                paper = paper_least(bounds, gathering, k)
                self.check(kept, things, f"least {word} {k}", thing[0], paper, lambda other: shows_least(
                    bounds, gathering, other, k, thing[0]))
            if things:
                found = most(bounds, gathering)
                paper = paper_most(bounds, gathering)
                self.check(kept, things, f"most {word}", counted_text(found), paper, lambda other: shows_most(
                    bounds, gathering, other, found[0], found[1]))

    def test_often(self):
        for dice, bounds, kept in drawn_kept(207, 20):
            word, gathering, things = kept.asked(drawn_spots(dice, kept.rows))
            for part in dice.sample(some_parts(dice, things), 4):
                found = often(bounds, gathering, part)
                paper = paper_often(bounds, gathering, part)
                self.check(kept, things, f"often {word} {part}", list_text(found), paper, lambda other: shows_often(
                    bounds, gathering, other, part, found))

    def test_what_a_paper_shows_is_so_whoever_wrote_it(self):
        for dice, bounds, kept in drawn_kept(208, 40):
            word, gathering, things = kept.asked(drawn_spots(dice, kept.rows))
            for turn in range(5):
                number = dice.choice(some_numbers(dice, bounds, things))
                other = [thing for thing in things if dice.random() < 0.9]
                splits = drawn_splits(dice, bounds, [number] + [thing[0] for thing in things][:3])
                paper = plain_paper(bounds, other, splits)
                self.assertEqual(keeps(bounds[1], gathering, paper), paper == plain_paper(bounds, things, splits))
                for many in {len(other), len(things), sum(thing[0] < number for thing in other)}:
                    if kept.desk.say(f"shows below {word} {number} {many} {paper_text(paper)}") == "yes":
                        self.assertEqual(many, sum(thing[0] < number for thing in things))


class Trees(unittest.TestCase):
    def test_behind_any_changes_the_tree_of_the_row_made_anew(self):
        for dice, bounds, kept in drawn_kept(209, 40, 12):
            for make, row in enumerate(kept.rows):
                tree = kept.makes.tree(make)
                self.assertTrue(same(tree, plain_tree(bounds, row)))
                self.assertTrue(same(tree, tree_of(bounds, row)))
                self.assertTrue(is_tree(bounds[1], tree))
                self.assertTrue(same(row_of(bounds, tree), row))

    def test_the_part_at_a_way_is_the_tree_of_the_numbers_that_lie_there(self):
        for dice, bounds, kept in drawn_kept(210, 30):
            for make, row in enumerate(kept.rows):
                for way in drawn_ways(dice, bounds, [row]):
                    inner = [row[place] for place in places_at(bounds, row, way)]
                    right = plain_tree(bounds_at(bounds, way), inner)
                    self.assertTrue(same(part_at(kept.makes.tree(make), way), right))

    def test_counts_are_the_sums_of_those_beneath(self):
        for dice, bounds, kept in drawn_kept(211, 20):
            for make in range(len(kept.rows)):
                counts = [counts_at(kept.makes.tree(make), bounds[1], depth) for depth in range(bounds[1] + 1)]
                for upper, beneath in zip(counts, counts[1:]):
                    added = {}
                    for way, many in beneath:
                        added[way[:-1]] = added.get(way[:-1], 0) + many
                    self.assertEqual(upper, sorted(added.items()))

    def test_put_in_wider_bounds(self):
        for dice, bounds, kept in drawn_kept(212, 30):
            if bounds[1] < 40 and abs(bounds[0]) < 10 ** 39:
                for make, row in enumerate(kept.rows):
                    for side, low in (("up", bounds[0]), ("down", bounds[0] - 2 ** bounds[1])):
                        told = wider(bounds, kept.makes.tree(make), side)
                        self.assertTrue(same(told, ((low, bounds[1] + 1), plain_tree((low, bounds[1] + 1), row))))


class Pairs(unittest.TestCase):
    def test_all_pairs_and_turned_about(self):
        for dice, bounds, kept in drawn_kept(213, 40):
            for make, start, end in drawn_spots(dice, kept.rows):
                about, row = kept.makes.turned(make), kept.rows[make]
                self.assertEqual(kept.desk.say(f"turn {make}"), str(about))
                kept.rows.append(row[::-1])
                stretch = (kept.makes.tree(make), start, end)
                other = (kept.makes.tree(about), len(row) - end, len(row) - start)
                right = plain_pairs(row[start:end])
                self.assertTrue(same((falls(stretch), rises(stretch), alike(stretch)), right))
                self.assertTrue(same((rises(other), falls(other), alike(other)), right))
                self.assertEqual(sum(right), (end - start) * (end - start - 1) // 2)
                self.assertEqual(sum(many for way, many in falls_by_ways(stretch)), right[0])
                self.assertEqual(kept.desk.say(f"falls {make}:{start}:{end}"), str(right[0]))
                self.assertEqual(kept.desk.say(f"falls {about}:{other[1]}:{other[2]}"), str(right[1]))


class Stay(unittest.TestCase):
    def answers(self, kept, word, gathering, things):
        """What the functions and the desk say of a gathering."""
        bounds, desk = kept.bounds, kept.desk
        numbers = [bounds[0], top(bounds)] + [thing[0] for thing in things[::5]]
        told = [most(bounds, gathering), worths_in(bounds, gathering)]
        told += [desk.say(f"most {word}"), desk.say(f"often {word} 3")]
        for number in numbers:
            told += [below(bounds, gathering, number), next_up(bounds, gathering, number)]
            told += [paper_below(bounds, gathering, number), paper_up(bounds, gathering, number)]
            told += [desk.say(f"{row} {word} {number}") for row in ("below", "up", "down", "paper below", "paper up")]
        return told

    def shown(self, kept, many):
        """What the makes and the desk tell of the first so many makes."""
        makes, desk = kept.makes, kept.desk
        return [
            (makes.tree(make), makes.row(make), makes.came_of(make), desk.say(f"show {make}")) for make in range(many)
        ]

    def test_makes_that_stand_answer_as_they_did(self):
        for dice, bounds, kept in drawn_kept(214, 25):
            asked = [kept.asked(drawn_spots(dice, kept.rows)) for turn in range(3)]
            spots = [drawn_spots(dice, kept.rows) for turn in range(3)]
            before = [self.answers(kept, *one) for one in asked + [kept.asked(one) for one in spots]]
            shown = self.shown(kept, len(kept.rows))
            kept.do_more(15)
            behind = [self.answers(kept, *one) for one in asked + [kept.asked(one) for one in spots]]
            self.assertTrue(same(behind, before))
            self.assertTrue(same(self.shown(kept, len(shown)), shown))


if __name__ == "__main__":
    unittest.main()
