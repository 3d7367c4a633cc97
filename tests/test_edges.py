import unittest
from itertools import product
from random import Random

from pictures import (
    TURNS, apart_at_edge, fits_by_pairs, grid_of, halves_to, looks_of, made_otherwise, random_house, sights_of,
    some_houses)
from wellpanes.edges import fit_paper, fits, misfit, rows_that_fit
from wellpanes.panes import beside, numbered_on, quarter_of, sight_at, turned

# The right edge of 0 is a, b; the left one b, c. 1 and 2 go on along an edge; 3 has no colour; 4 is all a behind looks.
HOUSE = (
    ("b", "a", "c", "b"),
    ("x", "a", "y", (1, 0)),
    ("a", "x", (2, 0), "y"),
    ((3, 1), (3, 0), (3, 7), (3, 0)),
    ((5, 1), "a", "a", (5, 2)),
    ("a", "a", "a", "a"),
    ("a", "x", "b", "y"),
)


def right_edge(house, sight, depth):
    return [row[-1] for row in grid_of(house, sight, depth)]


def left_edge(house, sight, depth):
    return [row[0] for row in grid_of(house, sight, depth)]


def shortest_row_apart(house, one, other, longest):
    """The shortest row of halves to unlike colours, of these the least."""
    for row in halves_to(longest):
        right = sight_at(house, one, [2 * half + 1 for half in row])
        left = sight_at(house, other, [2 * half for half in row])
        if isinstance(right, str) and isinstance(left, str) and right != left:
            return row
    return None


def are_halves(thing):
    return isinstance(thing, tuple) and all([type(half) is int and half in (0, 1) for half in thing])


def is_fit_paper(house, one, other, thing):
    """Whether the list of triples is as the document says, by its words."""
    numbers = {(first, second): number for first, second, number in thing}
    if type(thing) is not list or len(numbers) != len(thing) or (one, other) not in numbers:
        return False
    for (first, second), number in numbers.items():
        if type(number) is not int or number < 0:
            return False
        if isinstance(first, str) and isinstance(second, str):
            if first != second:
                return False
            continue
        for right, left in ((1, 0), (3, 2)):
            part = (quarter_of(house, first, right), quarter_of(house, second, left))
            if part not in numbers:
                return False
            if (isinstance(first, str) or isinstance(second, str)) and numbers[part] >= number:
                return False
    return True


class Case(unittest.TestCase):
    def assert_fit(self, house, one, other):
        self.assertIs(fits(house, one, other), True, (house, one, other))
        self.assertIs(misfit(house, one, other), None)
        self.assertTrue(is_fit_paper(house, one, other, fit_paper(house, one, other)), (house, one, other))

    def assert_misfit(self, house, one, other):
        self.assertIs(fits(house, one, other), False, (house, one, other))
        self.assertIs(fit_paper(house, one, other), None)
        told = misfit(house, one, other)
        self.assertIs(type(told), tuple)
        row, again = told
        self.assertTrue(are_halves(row) and are_halves(again) and len(again) > 0, told)
        self.assertTrue(apart_at_edge(house, one, other, row, again), (house, one, other, told))
        return told

    def assert_as_by_pairs(self, house, one, other):
        """Told is whether both fit, and by which row they don't; tells whether they do."""
        if fits_by_pairs(house, one, other):
            self.assert_fit(house, one, other)
            return "fit"
        row, again = self.assert_misfit(house, one, other)
        shortest = shortest_row_apart(house, one, other, 9)
        if shortest is not None:
            self.assertEqual((row, again), (shortest, (0,)))
            return "unlike colours"
        return "one has none"


class Fits(Case):
    def test_colours(self):
        self.assert_fit((), "a", "a")
        self.assertEqual(self.assert_misfit((), "a", "b"), ((), (0,)))
        self.assertEqual(self.assert_misfit(HOUSE, "b", "a"), ((), (0,)))

    def test_the_right_edge_of_one_and_the_left_one_of_other(self):
        self.assert_fit(HOUSE, (0, 0), (6, 0))
        self.assertEqual(self.assert_misfit(HOUSE, (6, 0), (0, 0)), ((0,), (0,)))
        self.assertEqual(self.assert_misfit(HOUSE, (0, 0), (0, 0)), ((0,), (0,)))

    def test_the_lower_half(self):
        house = (("a", "a", "a", "b"), ("a", "a", "a", "c"))
        self.assertEqual(self.assert_misfit(house, (0, 0), (1, 0)), ((1,), (0,)))
        self.assertEqual(self.assert_misfit(house, (0, 0), "a"), ((1,), (0,)))
        self.assert_fit(house, "a", (0, 0))

    def test_edges_that_go_on(self):
        self.assert_fit(HOUSE, (1, 0), (2, 0))
        self.assert_fit(HOUSE, (2, 0), (1, 0))
        self.assert_fit(HOUSE, (1, 6), (2, 6))
        # From the top x and a, beside what comes to a again and again, upwards.
        self.assertEqual(self.assert_misfit(HOUSE, (1, 6), (2, 3)), ((0, 1), (0,)))

    def test_just_one_has_none_at_the_end_of_an_edge(self):
        row, again = self.assert_misfit(HOUSE, (1, 0), "a")
        self.assertEqual(again, (1,) * len(again))
        row, again = self.assert_misfit(HOUSE, "a", (2, 0))
        self.assertEqual(again, (1,) * len(again))

    def test_without_a_colour(self):
        for turn in TURNS:
            self.assert_fit(HOUSE, (3, turn), (3, 0))
            self.assert_misfit(HOUSE, (3, turn), "a")
            self.assert_misfit(HOUSE, (0, turn), (3, 1))
        # What has no colour at its right edge alone.
        house = (("a", (0, 0), "a", (0, 0)), ((1, 0),) * 4)
        self.assert_fit(house, (0, 0), (1, 0))
        self.assert_misfit(house, (1, 0), (0, 0))

    def test_a_colour_hidden_behind_looks(self):
        for turn in TURNS:
            self.assert_fit(HOUSE, (4, turn), "a")
            self.assert_fit(HOUSE, "a", (4, turn))
            self.assert_fit(HOUSE, (4, turn), (4, 0))
            self.assertEqual(self.assert_misfit(HOUSE, "b", (4, turn))[1], (0,))

    def test_the_inner_part_is_nothing_to_the_edge(self):
        house = (("x", "a", (0, 3), "b"), ("a", "y", "b", "z"))
        self.assert_fit(house, (0, 0), (1, 0))

    def test_edges_turned_by_each_turn(self):
        letters = ("a", "b", "c", "d")
        for by, turn in product(TURNS, TURNS):
            house = (letters, ((0, by), (0, turn), (0, by), (0, turn)), ((0, turn), "x", (0, by), "y"))
            for one, other in product((0, 1, 2), (0, 1)):
                edges = (right_edge(house, (one, by), 2), left_edge(house, (other, turn), 2))
                self.assertIs(fits(house, (one, by), (other, turn)), edges[0] == edges[1])

    def test_as_the_cells_at_the_edges(self):
        rng = Random(101)
        told = {True: 0, False: 0}
        for house in some_houses(200, 101):
            one, other = rng.choice(sights_of(house)), rng.choice(sights_of(house))
            edges = zip(right_edge(house, one, 4), left_edge(house, other, 4))
            unlike = any([None not in pair and pair[0] != pair[1] for pair in edges])
            told[unlike] += 1
            if unlike:
                self.assertIs(fits(house, one, other), False)
        self.assertTrue(min(told.values()) > 30, told)

    def test_drawn_houses_by_all_pairs_that_meet(self):
        rng = Random(102)
        told = {}
        for house in some_houses(300, 102):
            for _ in range(3):
                one, other = rng.choice(looks_of(house) + ["a"]), rng.choice(looks_of(house) + ["a"])
                what = self.assert_as_by_pairs(house, one, other)
                told[what] = told.get(what, 0) + 1
        self.assertTrue(min([told[what] for what in ("fit", "unlike colours", "one has none")]) > 50, told)

    def test_edges_of_mirrored_pictures_fit(self):
        rng = Random(103)
        for house in some_houses(60, 103):
            look = rng.choice(looks_of(house))
            self.assert_fit(house, look, turned(look, 4))

    def test_the_same_of_pictures_made_otherwise(self):
        rng = Random(104)
        for house in some_houses(40, 104):
            other_house, told_there = made_otherwise(rng, house)
            both = beside(house, other_house)
            look = rng.choice(looks_of(house))
            self.assert_fit(both, look, numbered_on(told_there(turned(look, 4)), len(house)))
            one, other = rng.choice(looks_of(house)), rng.choice(looks_of(house))
            self.assertIs(fits(other_house, told_there(one), told_there(other)), fits(house, one, other))

    def test_houses_of_24_panes(self):
        rng = Random(105)
        told = {}
        for looks, colours in ((0.5, "abcdefghijkl"), (0.9, "abc"), (0.97, "a"), (1, "a")):
            house = random_house(rng, 24, colours, looks)
            for _ in range(4):
                one, other = rng.choice(looks_of(house)), rng.choice(looks_of(house))
                self.assert_as_by_24(house, one, turned(one, 4), told)
                self.assert_as_by_24(house, one, other, told)
        self.assertTrue(told[True] > 10 and told[False] > 5, told)

    def assert_as_by_24(self, house, one, other, told):
        fit = fits(house, one, other)
        told[fit] = told.get(fit, 0) + 1
        if fit:
            self.assert_fit(house, one, other)
        else:
            self.assert_misfit(house, one, other)

    def test_a_chain_of_24_panes_that_parts_at_its_end(self):
        chain = tuple([("x", "a", "x", (at + 1, 0)) for at in range(23)]) + (("x", "a", "x", "b"),)
        other = tuple([("a", "x", (at + 1, 0), "x") for at in range(23)]) + (("a", "x", "c", "x"),)
        both = beside(chain, other)
        self.assertEqual(self.assert_misfit(both, (0, 0), (24, 0)), ((1,) * 24, (0,)))
        self.assert_fit(both, (0, 0), (0, 4))

    def test_by_name(self):
        self.assertIs(fits(other="a", one="a", house=()), True)
        self.assertEqual(misfit(other="b", one="a", house=()), ((), (0,)))
        self.assertEqual(fit_paper(other="a", one="a", house=()), fit_paper((), "a", "a"))


class Misfit(Case):
    def test_the_shortest_row_and_of_these_the_least(self):
        # Unlike at once below, later above.
        house = (("x", (1, 0), "x", "b"), ("x", "p", "x", "q"), ("a", "x", "a", "x"))
        self.assertEqual(misfit(house, (0, 0), (2, 0)), ((1,), (0,)))
        house = (("x", (1, 0), "x", (1, 0)), ("x", "a", "x", "q"), ("a", "x", "a", "x"))
        self.assertEqual(misfit(house, (0, 0), (2, 0)), ((0, 1), (0,)))

    def test_unlike_colours_go_ahead_of_none(self):
        # The upper half has none in one; far below two unlike colours stand.
        house = (("x", (1, 0), "x", (2, 0)), ((1, 0),) * 4, ("x", "a", "x", (3, 0)), ("x", "a", "x", "b"))
        self.assertEqual(misfit(house, (0, 0), "a"), ((1, 1, 1), (0,)))
        row, again = misfit(house, (0, 0), "z")
        self.assertEqual((row, again), ((1, 0), (0,)))

    def test_where_just_one_has_a_colour(self):
        house = (("x", (1, 0), "x", "a"), ((1, 0),) * 4)
        row, again = misfit(house, (0, 0), "a")
        self.assertEqual((row + again)[0], 0)
        row, again = misfit(house, "a", (0, 4))
        self.assertEqual((row + again)[0], 0)

    def test_told_again_the_same(self):
        for one, other in product(looks_of(HOUSE)[::5], repeat=2):
            self.assertEqual(misfit(HOUSE, one, other), misfit(HOUSE, one, other))
            self.assertEqual(fit_paper(HOUSE, one, other), fit_paper(HOUSE, one, other))


class FitPaper(Case):
    def test_some(self):
        self.assertEqual(fit_paper((), "a", "a"), [("a", "a", 0)])
        self.assertEqual(sorted(fit_paper(HOUSE, (0, 0), (6, 0)), key=str), sorted([
            ((0, 0), (6, 0), 0), ("a", "a", 0), ("b", "b", 0)], key=str))

    def test_it_is_the_askers_own(self):
        told = fit_paper(HOUSE, (0, 0), (6, 0))
        told.clear()
        self.assertEqual(len(fit_paper(HOUSE, (0, 0), (6, 0))), 3)


class RowsThatFit(Case):
    def assert_rows(self, house, sights, numbers=(1, 2, 3, 4)):
        """Told are the rows by fits; tells how many there are."""
        pairs = product(range(len(sights)), repeat=2)
        fit = {(one, other): fits(house, sights[one], sights[other]) for one, other in pairs}
        for many in numbers:
            told = rows_that_fit(house, sights, many)
            self.assertIs(type(told), list)
            rows = product(range(len(sights)), repeat=many)
            self.assertEqual(told, [row for row in rows if all([fit[pair] for pair in zip(row, row[1:])])])
        return len(told)

    def test_one(self):
        self.assertEqual(rows_that_fit((), ["a", "b"], 1), [(0,), (1,)])
        self.assertEqual(rows_that_fit(HOUSE, [], 1), [])
        self.assertEqual(rows_that_fit(HOUSE, [], 3), [])

    def test_some(self):
        self.assertEqual(rows_that_fit((), ["a", "b", "a"], 2), [(0, 0), (0, 2), (1, 1), (2, 0), (2, 2)])
        self.assertEqual(rows_that_fit(HOUSE, [(0, 0), (6, 0)], 2), [(0, 1)])
        self.assertEqual(rows_that_fit(HOUSE, [(0, 0), (6, 0)], 3), [])
        self.assertEqual(rows_that_fit(HOUSE, [(0, 0), (6, 0), (0, 4)], 3), [(0, 2, 0), (2, 0, 1), (2, 0, 2)])
        self.assertEqual(rows_that_fit(HOUSE, ["a", (4, 1)], 4), list(product((0, 1), repeat=4)))

    def test_a_tuple_of_sights(self):
        self.assertEqual(rows_that_fit(HOUSE, ((0, 0), (6, 0)), 2), [(0, 1)])

    def test_by_fits(self):
        rng = Random(106)
        for house in list(some_houses(40, 106)) + [HOUSE] * 10:
            sights = [rng.choice(sights_of(house)) for _ in range(rng.randrange(1, 6))]
            self.assert_rows(house, sights + [turned(sights[0], 4)])

    def test_houses_of_24_panes_and_6_sights(self):
        rng = Random(107)
        for looks, colours in ((0.5, "abcdefghijkl"), (0.95, "ab"), (1, "a")):
            house = random_house(rng, 24, colours, looks)
            looks_there = [rng.choice(looks_of(house)) for _ in range(3)]
            sights = looks_there + [turned(look, 4) for look in looks_there]
            self.assertTrue(self.assert_rows(house, sights, (4,)) >= 6)

    def test_what_is_told_is_the_askers_own(self):
        told = rows_that_fit(HOUSE, ["a"], 1)
        told.append("mine")
        self.assertEqual(rows_that_fit(HOUSE, ["a"], 1), [(0,)])

    def test_nothing_handed_in_is_changed(self):
        sights = [(0, 0), "a"]
        rows_that_fit(HOUSE, sights, 3)
        self.assertEqual(sights, [(0, 0), "a"])

    def test_by_name(self):
        self.assertEqual(rows_that_fit(many=2, sights=["a"], house=()), [(0, 0)])


class Interface(unittest.TestCase):
    def test_each_is_defined_in_its_file(self):
        for function in (fits, misfit, fit_paper, rows_that_fit):
            self.assertEqual(function.__module__, "wellpanes.edges")


if __name__ == "__main__":
    unittest.main()
