import unittest
from fractions import Fraction
from itertools import product
from random import Random

from pictures import QUARTERS, TURNS, looks_of, made_otherwise, random_house, sights_of, some_houses
from wellpanes.alike import alike
from wellpanes.cells import counted, drawn
from wellpanes.panes import beside, numbered_on, panes_from, quarter_of
from wellpanes.shares import parted_share, share_paper, shares

# 0 leads on within itself, 1 is all red behind looks, 2 and 6 have no colour, 3 leads to 1, to 2 and to itself.
HOUSE = (
    ("a", (0, 3), "b", (1, 2)),
    ((4, 1), "red", "red", (4, 5)),
    ((2, 1), (6, 0), (2, 7), (2, 0)),
    ((1, 3), "white", (2, 0), (3, 0)),
    ("red", "red", "red", "red"),
    ("a", "a", "a", (5, 1)),
    ((2, 1), (2, 0), (6, 7), (2, 0)),
    ((8, 2), (8, 0), (7, 0), (7, 1)),
    ((7, 2), (2, 0), (7, 0), (3, 1)),
)


def as_numbers(told):
    return {what: Fraction(*share) for what, share in told}


def house_of_8(seed, colours, looks):
    """A house of 8 panes, to all of which the first one leads."""
    rng = Random(seed)
    while True:
        house = random_house(rng, 8, colours, looks)
        if len(panes_from(house, [(0, 0)])) == 8:
            return house


class Shares(unittest.TestCase):
    def test_of_a_colour(self):
        self.assertEqual(shares((), "red"), [("red", (1, 1))])
        self.assertEqual(shares(HOUSE, "zz"), [("zz", (1, 1))])

    def test_a_colour_hidden_behind_looks(self):
        for turn in TURNS:
            self.assertEqual(shares(HOUSE, (1, turn)), [("red", (1, 1))])

    def test_without_a_colour(self):
        self.assertEqual(shares(HOUSE, (2, 5)), [(None, (1, 1))])
        self.assertEqual(shares(HOUSE, (6, 0)), [(None, (1, 1))])

    def test_one_colour_and_spots_without_one_that_have_no_share(self):
        self.assertEqual(shares(HOUSE, (5, 3)), [("a", (1, 1))])

    def test_some(self):
        self.assertEqual(shares((("a", "b", "a", "c"),), (0, 1)), [("a", (1, 2)), ("b", (1, 4)), ("c", (1, 4))])
        self.assertEqual(shares(HOUSE, (0, 0)), [("a", (1, 3)), ("b", (1, 3)), ("red", (1, 3))])
        self.assertEqual(shares(HOUSE, (3, 6)), [(None, (1, 3)), ("red", (1, 3)), ("white", (1, 3))])
        house = (("b", "a", (1, 0), (1, 3)), ("c", "c", "c", "b"))
        self.assertEqual(shares(house, (0, 0)), [("a", (1, 4)), ("b", (3, 8)), ("c", (3, 8))])
        # 4x = 2y + 2x and 4y = 2x + n + s, so both are half of what pane 2's n and pane 3's s have together.
        self.assertEqual(shares(HOUSE, (7, 0)), [(None, (2, 3)), ("red", (1, 6)), ("white", (1, 6))])
        self.assertEqual(shares(HOUSE, (8, 0)), [(None, (2, 3)), ("red", (1, 6)), ("white", (1, 6))])

    def test_two_that_lead_to_one_another(self):
        # 4x = 1 + 2x + y and 4y = x + 1 in a, so x is 5/7 and y 3/7; of b 4x = 2x + y and 4y = x + 2: 2/7 and 4/7.
        house = (("a", (0, 4), (0, 1), (1, 3)), ("b", (0, 2), "a", "b"))
        self.assertEqual(shares(house, (0, 7)), [("a", (5, 7)), ("b", (2, 7))])
        self.assertEqual(shares(house, (1, 0)), [("a", (3, 7)), ("b", (4, 7))])

    def test_together_they_are_one_and_rise(self):
        rng = Random(91)
        for looks, colours in ((0.5, "abcdefghijkl"), (0.9, "abc"), (0.98, "ab")):
            house = random_house(rng, 24, colours, looks)
            for pane in range(24):
                told = shares(house, (pane, 0))
                self.assertEqual(sum([Fraction(*share) for _, share in told]), 1)
                names = [what for what, _ in told]
                self.assertEqual(names, [None] * names.count(None) + sorted([what for what in names if what]))
                for _, (top, bottom) in told:
                    self.assertEqual((Fraction(top, bottom).numerator, Fraction(top, bottom).denominator), (top, bottom))
                    self.assertTrue(top > 0 and bottom > 0)

    def test_each_is_a_fourth_of_the_sum_of_its_quarters(self):
        for house in some_houses(60, 22):
            for look in looks_of(house)[::3]:
                self.assert_fourth(house, look)

    def assert_fourth(self, house, look):
        sums = {}
        for quarter in QUARTERS:
            for what, share in shares(house, quarter_of(house, look, quarter)):
                sums[what] = sums.get(what, 0) + Fraction(*share) / 4
        self.assertEqual(as_numbers(shares(house, look)), sums)

    def test_cells_of_any_depth_lie_on_either_side(self):
        rng = Random(92)
        houses = list(some_houses(30, 23)) + [random_house(rng, 24, "abcdefghijkl", looks) for looks in (0.6, 0.9, 0.99)]
        for house in houses:
            look = rng.choice(looks_of(house))
            told = as_numbers(shares(house, look))
            for depth in (0, 1, 2, 7, 40, 200):
                cells = dict(counted(house, look, depth))
                left = cells.pop(None, 0)
                for colour in set(cells) | {what for what in told if what is not None}:
                    many = 4 ** depth * told[colour]
                    self.assertTrue(cells.get(colour, 0) <= many <= cells.get(colour, 0) + left)
                # What isn't of a colour yet is all that None may have.
                self.assertTrue(told.get(None, 0) * 4 ** depth <= left)

    def test_chains_of_24_panes(self):
        chain = tuple([((at + 1, 3), "a", "b", "b") for at in range(23)]) + (("c", "c", "a", "a"),)
        c_share = Fraction(1, 2 * 4 ** 23)
        a_share = sum([Fraction(1, 4 ** at) for at in range(1, 24)]) + c_share
        self.assertEqual(as_numbers(shares(chain, (0, 0))), {"a": a_share, "b": 1 - a_share - c_share, "c": c_share})
        ring = chain[:23] + (((0, 1), "a", "b", "b"),)
        self.assertEqual(shares(ring, (7, 0)), [("a", (1, 3)), ("b", (2, 3))])
        # A colour at the end alone of a chain that falls back to its begin nearly always.
        far = tuple([((at + 1, 0), (0, 0), (0, 1), (0, 2)) for at in range(23)]) + (("c", (0, 0), (0, 0), (0, 0)),)
        self.assertEqual(shares(far, (0, 0)), [("c", (1, 1))])
        near = far[:23] + (("c", "b", "b", (24, 0)), ((24, 0),) * 4)
        self.assertEqual(shares(near, (0, 0)), [(None, (1, 4)), ("b", (1, 2)), ("c", (1, 4))])

    def test_the_same_of_pictures_made_otherwise(self):
        rng = Random(93)
        for looks in (0.5, 0.9):
            house = random_house(rng, 11, "abcdefghijkl", looks)
            other, told_there = made_otherwise(rng, house)
            for look in looks_of(house)[::9]:
                self.assertEqual(shares(other, told_there(look)), shares(house, look))

    def test_what_is_told_is_the_askers_own(self):
        told = shares(HOUSE, (0, 0))
        self.assertIs(type(told), list)
        told.clear()
        self.assertEqual(len(shares(HOUSE, (0, 0))), 3)
        shares(HOUSE, (2, 0)).append("mine")
        self.assertEqual(shares(HOUSE, (2, 0)), [(None, (1, 1))])

    def test_by_name(self):
        self.assertEqual(shares(sight="a", house=()), [("a", (1, 1))])


class PartedShare(unittest.TestCase):
    def test_of_colours(self):
        self.assertEqual(parted_share((), "a", "a"), (0, 1))
        self.assertEqual(parted_share((), "a", "b"), (1, 1))

    def test_of_a_colour_and_a_look(self):
        for turn in TURNS:
            self.assertEqual(parted_share(HOUSE, "a", (0, turn)), (2, 3))
            self.assertEqual(parted_share(HOUSE, (0, turn), "zz"), (1, 1))
            self.assertEqual(parted_share(HOUSE, "red", (1, turn)), (0, 1))
            self.assertEqual(parted_share(HOUSE, (5, turn), "a"), (0, 1))
            self.assertEqual(parted_share(HOUSE, "a", (2, turn)), (1, 1))
            self.assertEqual(parted_share(HOUSE, (3, turn), "white"), (2, 3))

    def test_without_a_colour(self):
        self.assertEqual(parted_share(HOUSE, (2, 0), (6, 3)), (0, 1))
        self.assertEqual(parted_share(HOUSE, (2, 0), (2, 0)), (0, 1))
        # Where one has a colour and the other none, they are told unlike.
        self.assertEqual(parted_share(HOUSE, (2, 0), (0, 0)), (1, 1))
        self.assertEqual(parted_share(HOUSE, (5, 0), (6, 1)), (1, 1))
        self.assertEqual(parted_share(HOUSE, (3, 0), (2, 1)), (2, 3))

    def test_of_two_looks(self):
        house = (("a", "a", "b", "b"), ("a", "b", "a", "b"), ("a", (2, 0), "b", "b"), ("a", (3, 0), "b", "c"))
        self.assertEqual(parted_share(house, (0, 0), (1, 0)), (1, 2))
        self.assertEqual(parted_share(house, (0, 0), (0, 2)), (1, 1))
        self.assertEqual(parted_share(house, (0, 0), (0, 4)), (0, 1))
        self.assertEqual(parted_share(house, (2, 0), (3, 0)), (1, 3))
        self.assertEqual(parted_share(house, (2, 5), (3, 5)), (1, 3))
        # a and a; 1/3 of the third's is a; b and b; b and b.
        self.assertEqual(parted_share(house, (2, 0), (0, 0)), (1, 6))

    def test_it_may_be_nothing_of_pictures_that_are_not_alike(self):
        self.assertIs(alike(HOUSE, (5, 0), "a"), False)
        self.assertEqual(parted_share(HOUSE, (5, 0), (5, 1)), (0, 1))
        self.assertIs(alike(HOUSE, (5, 0), (5, 1)), False)

    def test_what_is_alike_has_none(self):
        rng = Random(94)
        house = random_house(rng, 8, "abc", 0.8)
        other, told_there = made_otherwise(rng, house)
        both = beside(house, other)
        for look in looks_of(house)[::5]:
            self.assertEqual(parted_share(both, look, numbered_on(told_there(look), 8)), (0, 1))

    def test_each_is_a_fourth_of_the_sum_of_its_quarters(self):
        rng = Random(95)
        told = {}
        for house in some_houses(100, 24):
            one, other = rng.choice(sights_of(house)), rng.choice(sights_of(house))
            share = parted_share(house, one, other)
            self.assertEqual(share, parted_share(house, other, one))
            parts = [
                Fraction(*parted_share(house, quarter_of(house, one, quarter), quarter_of(house, other, quarter)))
                for quarter in QUARTERS]
            self.assertEqual(Fraction(*share), sum(parts) / 4)
            self.assertEqual((Fraction(*share).numerator, Fraction(*share).denominator), share)
            told[share] = True
        self.assertTrue(len(told) > 15, len(told))

    def test_the_cells_lie_on_either_side(self):
        rng = Random(96)
        for house in some_houses(60, 25):
            one, other = rng.choice(sights_of(house)), rng.choice(sights_of(house))
            cells = list(zip(sum(drawn(house, one, 5), []), sum(drawn(house, other, 5), [])))
            unlike = [pair for pair in cells if None not in pair and pair[0] != pair[1]]
            unsure = [pair for pair in cells if None in pair]
            share = Fraction(*parted_share(house, one, other)) * 4 ** 5
            self.assertTrue(len(unlike) <= share <= len(unlike) + len(unsure))

    def test_pictures_that_lead_to_8_panes_each(self):
        for seed, looks, colours in ((4, 0.75, "abc"), (5, 0.85, "ab"), (6, 0.85, "abcdefghijkl")):
            house = beside(house_of_8(seed, colours, looks), house_of_8(seed + 10, colours, looks))
            one, other = (0, 3), (8, 6)
            parts = [
                Fraction(*parted_share(house, quarter_of(house, one, quarter), quarter_of(house, other, quarter)))
                for quarter in QUARTERS]
            self.assertEqual(Fraction(*parted_share(house, one, other)), sum(parts) / 4)

    def test_8_panes_each_of_looks_nearly_all(self):
        # What comes to a colour at all is of that one colour, so the shares of both tell how much is told unlike.
        both = beside(house_of_8(7, "a", 0.93), house_of_8(8, "b", 0.93))
        self.assertEqual([shares(both, (0, 3)), shares(both, (8, 6))], [[("a", (1, 1))], [("b", (1, 1))]])
        self.assertEqual(parted_share(both, (0, 3), (8, 6)), (1, 1))

    def test_by_name(self):
        self.assertEqual(parted_share(other=(0, 0), one="a", house=HOUSE), (2, 3))


class SharePaper(unittest.TestCase):
    def test_of_a_colour(self):
        self.assertEqual(share_paper((), "a"), [])
        self.assertEqual(share_paper(HOUSE, "a"), [])

    def test_some(self):
        self.assertEqual(share_paper(HOUSE, (1, 3)), [(1, 1, (("red", (1, 1)),)), (4, 1, (("red", (1, 1)),))])
        self.assertEqual(share_paper(HOUSE, (2, 3)), [(2, 0, ((None, (1, 1)),)), (6, 0, ((None, (1, 1)),))])
        self.assertEqual(share_paper(HOUSE, (0, 0)), [
            (0, 1, (("a", (1, 3)), ("b", (1, 3)), ("red", (1, 3)))),
            (1, 1, (("red", (1, 1)),)),
            (4, 1, (("red", (1, 1)),)),
        ])
        thirds = ((None, (1, 3)), ("red", (1, 3)), ("white", (1, 3)))
        self.assertEqual(share_paper(HOUSE, (3, 2)), [
            (1, 1, (("red", (1, 1)),)), (2, 0, ((None, (1, 1)),)), (3, 1, thirds), (4, 1, (("red", (1, 1)),)),
            (6, 0, ((None, (1, 1)),)),
        ])

    def test_the_fewest_quarters_to_a_colour_or_to_what_never_comes_to_one(self):
        # 8 looks into 2, which has no colour, 7 into 8; a colour is further off.
        numbers = {pane: number for pane, number, _ in share_paper(HOUSE, (7, 0))}
        self.assertEqual(numbers, {1: 1, 2: 0, 3: 1, 4: 1, 6: 0, 7: 2, 8: 1})
        house = (((1, 0), (2, 0), (0, 0), (0, 1)), ((1, 0), (2, 0), (2, 1), (2, 1)), ((2, 3), (3, 0), (0, 0), (3, 3)),
                 ((0, 0), (2, 0), (1, 0), "a"))
        self.assertEqual([number for _, number, _ in share_paper(house, (1, 0))], [3, 3, 2, 1])

    def test_numbers_of_a_chain_of_24_panes(self):
        chain = tuple([((at + 1, 3), (0, 0), (0, 0), (at + 1, 0)) for at in range(23)]) + (((0, 0),) * 3 + ("c",),)
        told = share_paper(chain, (0, 0))
        self.assertEqual(told, [(pane, 24 - pane, (("c", (1, 1)),)) for pane in range(24)])

    def test_shares_and_panes(self):
        rng = Random(98)
        for house in list(some_houses(40, 26)) + [random_house(rng, 24, "abcdefghijkl", 0.9)]:
            look = rng.choice(looks_of(house))
            told = share_paper(house, look)
            self.assertEqual([pane for pane, _, _ in told], panes_from(house, (look,)))
            numbers = {pane: number for pane, number, _ in told}
            for pane, number, there in told:
                self.assertEqual(there, tuple(shares(house, (pane, 0))))
                self.assertEqual(number, self.number_by_steps(house, pane), (house, pane))
                self.assertEqual(number == 0, there == ((None, (1, 1)),) and self.has_no_colour(house, pane))
            self.assertEqual(len(numbers), len(told))

    def has_no_colour(self, house, pane):
        return not any([isinstance(sight, str) for at in panes_from(house, [(pane, 0)]) for sight in house[at]])

    def number_by_steps(self, house, pane):
        if self.has_no_colour(house, pane):
            return 0
        here, steps = [(pane, 0)], 0
        while not any([isinstance(sight, str) or self.has_no_colour(house, sight[0]) for sight in here]):
            here = list({sight for look in here for sight in house[look[0]]})
            steps += 1
        return steps

    def test_what_is_told_is_the_askers_own(self):
        told = share_paper(HOUSE, (0, 0))
        self.assertEqual([type(told), type(told[0]), type(told[0][2])], [list, tuple, tuple])
        told.clear()
        self.assertEqual(len(share_paper(HOUSE, (0, 0))), 3)

    def test_by_name(self):
        self.assertEqual(share_paper(sight="a", house=HOUSE), [])


class Interface(unittest.TestCase):
    def test_each_is_defined_in_its_file(self):
        for function in (shares, parted_share, share_paper):
            self.assertEqual(function.__module__, "wellpanes.shares")


if __name__ == "__main__":
    unittest.main()
