import unittest
from itertools import product
from random import Random

from pictures import (
    TURNS, apart_at_edge, deep_list, deep_tuple, fits_by_pairs, halves_to, looks_of, random_house, some_houses)
from wellpanes.edgecheck import shows_fit, shows_misfit
from wellpanes.edges import fit_paper, misfit

# The right edge of 0 is a, b, that of 1 is a and all a; 2 and 3 go on along their edges; 4 has no colour.
HOUSE = (
    ("x", "a", "y", "b"),
    ("x", "a", "y", (5, 1)),
    ("x", "a", "y", (2, 0)),
    ("a", "x", (3, 0), "y"),
    ((4, 0),) * 4,
    ("a", "a", "a", (6, 1)),
    ("a", "a", "a", "a"),
    ("a", "x", "b", "y"),
)
A = [("a", "a", 0)]
TWO = [((0, 0), (7, 0), 0), ("a", "a", 0), ("b", "b", 0)]
ON = [((2, 0), (3, 0), 0), ("a", "a", 0)]
OTHERS = [
    None, True, False, 0, 1, -1, 10 ** 30, "", "a", "red", "0", "A", (), [], ((),), [()], [[]], (0,), [0], [True],
    (0, 0),
    [0, 0], (True, 0), (0, True), ("a", "a"), ["a", "a"], ("a", "a", 0), ["a", "a", 0], [("a", "a", 0)], (("a", "a",
    0),),
    (8, 0), (0, 8), (-1, 0), (0, -1), (0, 0, 0), ((0,), (0,)), ((), (0,)), deep_tuple("a", 10), deep_list("a", 10),
    deep_tuple(("a", "a", 0), 7), deep_list(("a", "a", 0), 7), deep_tuple((0, 0), 8),
]
NO_HALVES = [
    None, True, False, 0, 1, "", "0", "01", [], [0], [0, 1], (2,), (3,), (-1,), (0, 2), (True,), (False,), (None,),
    ("0",),
    ((0,),), ([],), (0, (0,)), (10 ** 20,), deep_tuple(0, 8), deep_list(0, 8),
]


def with_number(paper, at, number):
    return paper[:at] + [paper[at][:2] + (number,)] + paper[at + 1:]


class ShowsFit(unittest.TestCase):
    def assert_shows(self, expected, one, other, thing, house=HOUSE):
        self.assertIs(shows_fit(house, one, other, thing), expected, (one, other, thing))

    def test_papers_worked_out_by_hand(self):
        self.assert_shows(True, "a", "a", A)
        self.assert_shows(True, "a", "a", A, ())
        self.assert_shows(True, (0, 0), (7, 0), TWO)
        self.assert_shows(True, (0, 0), (7, 0), TWO[::-1])
        self.assert_shows(True, (2, 0), (3, 0), ON)

    def test_a_colour_and_a_look(self):
        # As a clock goes, the upper edge of 5 is the right one of (5, 1).
        self.assert_shows(True, (5, 1), "a", [((5, 1), "a", 1), ("a", "a", 0)])
        paper = [((1, 0), "a", 2), ((5, 1), "a", 1), ("a", "a", 0)]
        self.assert_shows(True, (1, 0), "a", paper)
        for at, number in ((0, 1), (0, 0), (1, 0), (1, 2), (1, 3), (2, 1), (2, 2)):
            self.assert_shows(False, (1, 0), "a", with_number(paper, at, number))
        self.assert_shows(True, (1, 0), "a", with_number(paper, 0, 10 ** 30))
        self.assert_shows(True, (1, 0), "a", [((1, 0), "a", 9), ((5, 1), "a", 8), ("a", "a", 7)])

    def test_a_look_beside_a_colour(self):
        self.assert_shows(True, "a", (5, 7), [("a", (5, 7), 1), ("a", "a", 0)])
        self.assert_shows(False, "a", (5, 7), [("a", (5, 7), 0), ("a", "a", 0)])
        self.assert_shows(False, "a", (5, 7), [("a", (5, 7), 1), ("a", "a", 1)])

    def test_further_pairs(self):
        self.assert_shows(True, "a", "a", A + [("b", "b", 7)])
        self.assert_shows(True, (0, 0), (7, 0), TWO + ON[:1])
        self.assert_shows(False, (0, 0), (7, 0), TWO + [((0, 0), (0, 0), 0)])

    def test_looks_alone_may_have_any_numbers(self):
        for number in (0, 1, 10 ** 20):
            self.assert_shows(True, (2, 0), (3, 0), with_number(ON, 0, number))
            self.assert_shows(True, (2, 0), (3, 0), with_number(ON, 1, number))
        self.assert_shows(True, (4, 0), (4, 0), [((4, 0), (4, 0), 0)])
        self.assert_shows(False, (4, 0), "a", [((4, 0), "a", 5), ("a", "a", 0)])

    def test_the_quarters_that_meet(self):
        # The paper of the pairing's kind, all four quarters side by side, is none.
        self.assert_shows(False, (0, 0), (0, 0), [((0, 0), (0, 0), 0)] + [(what, what, 0) for what in "abxy"])
        # The pairs the other way about, or upper beside lower ones.
        self.assert_shows(False, (0, 0), (7, 0), [TWO[0], ("x", "x", 0), ("y", "y", 0)])
        house = (("x", "a", "y", "b"), ("c", "x", "d", "y"))
        for pairs in (("ac", "bd"), ("ad", "bc"), ("ca", "db")):
            paper = [((0, 0), (1, 0), 0)] + [(first, second, 0) for first, second in pairs]
            self.assert_shows(False, (0, 0), (1, 0), paper, house)

    def test_unlike_colours(self):
        self.assert_shows(False, "a", "b", [("a", "b", 0)])
        self.assert_shows(False, "a", "a", A + [("a", "b", 1)])
        self.assert_shows(False, (0, 0), "a", [((0, 0), "a", 1), ("a", "a", 0), ("b", "a", 0)])

    def test_both_are_in_it_in_this_order(self):
        self.assert_shows(False, (7, 0), (0, 0), TWO)
        self.assert_shows(False, (0, 1), (7, 0), TWO)
        self.assert_shows(False, "b", "b", A)
        self.assert_shows(False, "a", "a", [])
        self.assert_shows(True, "b", "b", TWO)

    def test_no_triple_out_and_no_pair_twice(self):
        for paper, one, other in ((A, "a", "a"), (TWO, (0, 0), (7, 0)), (ON, (2, 0), (3, 0))):
            for at, (first, second, number) in enumerate(paper):
                self.assert_shows(False, one, other, paper[:at] + paper[at + 1:])
                self.assert_shows(False, one, other, paper + [(first, second, number)])
                self.assert_shows(False, one, other, [(first, second, number + 9)] + paper)

    def test_one_thing_otherwise(self):
        paper = TWO
        for wrong in OTHERS:
            self.assert_shows(False, (0, 0), (7, 0), wrong)
            self.assert_shows(False, (0, 0), (7, 0), paper + [wrong] if wrong != ("a", "a", 0) else [wrong])
            for at, part in enumerate(paper):
                self.assert_shows(False, (0, 0), (7, 0), paper[:at] + [wrong] + paper[at + 1:] if wrong != part else [])
                for place in (0, 1):
                    triple = list(part)
                    if triple[place] != wrong:
                        triple[place] = wrong
                        self.assert_shows(False, (0, 0), (7, 0), paper[:at] + [tuple(triple)] + paper[at + 1:])
                self.assert_shows(False, (0, 0), (7, 0), paper[:at] + [list(part)] + paper[at + 1:])
        self.assert_shows(False, (0, 0), (7, 0), tuple(paper))

    def test_wrong_numbers(self):
        for wrong in [other for other in OTHERS if type(other) is not int or other < 0]:
            for at in range(3):
                self.assert_shows(False, (0, 0), (7, 0), with_number(TWO, at, wrong))

    def test_truths_are_no_numbers(self):
        paper = [((5, 1), "a", 1), ("a", "a", 0)]
        self.assert_shows(False, (5, 1), "a", [((5, 1), "a", True), ("a", "a", 0)])
        self.assert_shows(False, (5, 1), "a", [((5, 1), "a", 1), ("a", "a", False)])
        self.assert_shows(False, (0, 0), (7, 0), [((False, 0), (7, 0), 0)] + TWO[1:])
        self.assert_shows(False, (0, 0), (7, 0), [((0, 0), (7, False), 0)] + TWO[1:])
        self.assert_shows(True, (5, 1), "a", paper)

    def test_the_fit_paper_itself(self):
        rng = Random(111)
        told = {True: 0, False: 0}
        for house in some_houses(300, 111):
            one, other = rng.choice(looks_of(house) + ["a"]), rng.choice(looks_of(house) + ["a"])
            paper = fit_paper(house, one, other)
            told[paper is not None] += 1
            if paper is not None:
                self.assert_shows(True, one, other, paper, house)
                rng.shuffle(paper)
                self.assert_shows(True, one, other, paper, house)
                self.assert_shows(False, one, other, [part for part in paper if part[:2] != (one, other)], house)
        self.assertTrue(min(told.values()) > 60, told)

    def test_nothing_shows_what_does_not_fit(self):
        # All pairs that meet, with any falling numbers, are no paper where both don't fit.
        rng = Random(112)
        for house in some_houses(100, 112):
            one, other = rng.choice(looks_of(house)), rng.choice(looks_of(house))
            if not fits_by_pairs(house, one, other):
                sights = looks_of(house) + ["a", "b", "c"]
                pairs = [(first, second, 0 if isinstance(first, str) else 1 + first[0])
                         for first, second in product(sights, repeat=2) if first == second or isinstance(first, tuple)]
                self.assert_shows(False, one, other, pairs, house)

    def test_houses_of_24_panes(self):
        rng = Random(113)
        for looks, colours in ((0.5, "abcdefghijkl"), (0.95, "ab"), (1, "a")):
            house = random_house(rng, 24, colours, looks)
            for look in looks_of(house)[::60]:
                other = (look[0], (4, 7, 6, 5, 0, 3, 2, 1)[look[1]])
                self.assert_shows(True, look, other, fit_paper(house, look, other), house)

    def test_by_name(self):
        self.assertIs(shows_fit(thing=TWO, other=(7, 0), one=(0, 0), house=HOUSE), True)


class ShowsMisfit(unittest.TestCase):
    def assert_shows(self, expected, one, other, thing, house=HOUSE):
        self.assertIs(shows_misfit(house, one, other, thing), expected, (one, other, thing))

    def test_some(self):
        self.assert_shows(True, "a", "b", ((), (0,)), ())
        self.assert_shows(True, (0, 0), (3, 0), ((1,), (0,)))
        self.assert_shows(False, (0, 0), (3, 0), ((0,), (0,)))
        self.assert_shows(False, (0, 0), (7, 0), ((0,), (0,)))
        self.assert_shows(False, (0, 0), (7, 0), ((1,), (0,)))

    def test_the_right_edge_of_one_and_the_left_one_of_other(self):
        self.assert_shows(True, (7, 0), (0, 0), ((), (1,)), (HOUSE[0],) * 7 + (("a", "p", "b", "q"),))
        self.assert_shows(False, (0, 0), (7, 0), ((), (1,)))
        self.assert_shows(True, (0, 0), "b", ((), (0,)))
        self.assert_shows(False, (0, 0), "b", ((), (1,)))
        self.assert_shows(True, "b", (7, 0), ((), (0,)))
        self.assert_shows(False, "b", (7, 0), ((), (1,)))

    def test_a_longer_row_and_a_round_otherwise(self):
        for row, again in (((1,), (1,)), ((1, 0, 1), (0,)), ((), (1,)), ((), (1, 0, 0)), ((1, 1, 1, 1), (0, 1))):
            self.assert_shows(True, (0, 0), (3, 0), (row, again))
        for row, again in (((0,), (1,)), ((0, 0, 1), (0,)), ((), (0,)), ((), (0, 1, 1))):
            self.assert_shows(False, (0, 0), (3, 0), (row, again))

    def test_where_just_one_has_a_colour(self):
        self.assert_shows(True, (2, 0), "a", ((), (1,)))
        self.assert_shows(True, "a", (3, 0), ((1,), (1, 1)))
        self.assert_shows(False, (2, 0), "a", ((1,), (0,)))
        # Both have none there.
        self.assert_shows(False, (2, 0), (3, 0), ((), (1,)))
        self.assert_shows(False, (4, 0), (4, 5), ((), (1, 0)))
        self.assert_shows(True, (4, 0), (0, 0), ((), (1, 0)))

    def test_all_rows_of_drawn_houses(self):
        rng = Random(114)
        told = {True: 0, False: 0}
        for house in some_houses(60, 114):
            one, other = rng.choice(looks_of(house) + ["a"]), rng.choice(looks_of(house) + ["b"])
            for row, again in product(halves_to(3), halves_to(2)[1:]):
                expected = apart_at_edge(house, one, other, row, again)
                self.assert_shows(expected, one, other, (row, again), house)
                told[expected] += 1
        self.assertTrue(min(told.values()) > 500, told)

    def test_misfit_itself(self):
        rng = Random(115)
        shown = 0
        for house in some_houses(200, 115):
            one, other = rng.choice(looks_of(house) + ["a"]), rng.choice(looks_of(house) + ["a"])
            told = misfit(house, one, other)
            if told is not None:
                self.assert_shows(True, one, other, told, house)
                shown += 1
        self.assertTrue(shown > 80, shown)

    def test_what_fits_is_told_apart_by_nothing(self):
        for row, again in product(halves_to(4), halves_to(3)[1:]):
            for turn in TURNS:
                self.assert_shows(False, (0, turn), (0, (4, 7, 6, 5, 0, 3, 2, 1)[turn]), (row, again))

    def test_what_is_no_such_pair(self):
        for wrong in NO_HALVES:
            self.assert_shows(False, "a", "b", (wrong, (0,)))
            self.assert_shows(False, "a", "b", ((), wrong))
            self.assert_shows(False, "a", "b", wrong)
        for wrong in OTHERS + [
            ((), ()), ((0,), ()), ((), (0,), (0,)), [(), (0,)], ((),), ((0,),), (([], (0,)),), ((0, 1), [0]), ([0],
            (0,)),
        ]:
            if wrong not in (((0,), (0,)), ((), (0,))):
                self.assert_shows(False, "a", "b", wrong)

    def test_by_name(self):
        self.assertIs(shows_misfit(thing=((), (0,)), other="b", one="a", house=()), True)


class Interface(unittest.TestCase):
    def test_each_is_defined_in_its_file(self):
        for function in (shows_fit, shows_misfit):
            self.assertEqual(function.__module__, "wellpanes.edgecheck")


if __name__ == "__main__":
    unittest.main()
