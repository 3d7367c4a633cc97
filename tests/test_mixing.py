import unittest
from itertools import product
from random import Random

from pictures import (
    QUARTERS, TURNS, colour_by_steps, looks_of, random_house, sights_of, some_houses, some_spots)
from wellpanes.alike import alike
from wellpanes.errors import NoMix
from wellpanes.mixing import laid, mixed
from wellpanes.panes import beside, is_house, is_sight, panes_from, quarter_of, turned

HOUSE = (
    ("a", "b", "c", (1, 1)),
    ("b", (0, 6), "a", (1, 0)),
    ((2, 0), (2, 1), (2, 2), (2, 3)),
    ("a", "a", "b", "b"),
    ("a", "b", "a", "b"),
)
SPOTS = some_spots()
LETTERS = "abcdefghijkl"


def pairs_met(house, one, other):
    """The rising list of all pairs of colours that both have at one spot, by going on from pair to pair."""
    seen = {(one, other)}
    waiting = [(one, other)]
    while waiting:
        first, second = waiting.pop()
        for quarter in QUARTERS:
            part = (quarter_of(house, first, quarter), quarter_of(house, second, quarter))
            if part not in seen:
                seen.add(part)
                waiting.append(part)
    return sorted([pair for pair in seen if isinstance(pair[0], str) and isinstance(pair[1], str)])


def table_of(colours, rng, told="pqrs"):
    return {pair: rng.choice(told) for pair in product(colours, repeat=2)}


def eight_each(looks, seed, colours=LETTERS):
    """A house of two parts, 8 panes to all of which the first leads in each."""
    rng = Random(seed)
    parts = []
    while len(parts) < 2:
        part = random_house(rng, 8, colours, looks)
        if len(panes_from(part, [(0, 0)])) == 8:
            parts.append(part)
    return beside(parts[0], parts[1])


class Case(unittest.TestCase):
    def assert_sound(self, house, told):
        """Told is a house that begins with this one's panes, and a sight of it."""
        self.assertIs(type(told), tuple)
        new, sight = told
        self.assertEqual(new[:len(house)], house)
        self.assertIs(is_house(new), True)
        self.assertIs(is_sight(new, sight), True)
        return new, sight

    def assert_mixed(self, house, one, other, table, spots=SPOTS):
        new, sight = self.assert_sound(house, mixed(house, one, other, table))
        for spot in spots:
            both = (colour_by_steps(house, one, spot), colour_by_steps(house, other, spot))
            expected = None if None in both else table[both]
            self.assertEqual(colour_by_steps(new, sight, spot), expected, (house, one, other, table, spot))

    def assert_laid(self, house, one, other, bare, spots=SPOTS):
        new, sight = self.assert_sound(house, laid(house, one, other, bare=bare))
        for spot in spots:
            expected = colour_by_steps(house, one, spot)
            if expected == bare:
                expected = colour_by_steps(house, other, spot)
            self.assertEqual(colour_by_steps(new, sight, spot), expected, (house, one, other, bare, spot))

    def assert_refused(self, pair, house, one, other, table):
        with self.assertRaises(NoMix) as caught:
            mixed(house, one, other, table)
        self.assertEqual(caught.exception.what, pair)
        self.assertIs(type(caught.exception.what), tuple)


class Mixed(Case):
    def test_colours(self):
        table = {("a", "b"): "c", ("b", "a"): "d"}
        self.assertEqual(mixed((), "a", "b", table)[1], "c")
        self.assertEqual(mixed(HOUSE, "b", "a", table)[1], "d")
        self.assert_mixed(HOUSE, "a", "b", table)

    def test_halves(self):
        table = {("a", "a"): "p", ("a", "b"): "q", ("b", "a"): "r", ("b", "b"): "s"}
        new, sight = mixed(HOUSE, (3, 0), (4, 0), table)
        for quarter, expected in enumerate("pqrs"):
            self.assertIs(alike(new, quarter_of(new, sight, quarter), expected), True)
        new, sight = mixed(HOUSE, (4, 0), (3, 0), table)
        for quarter, expected in enumerate("prqs"):
            self.assertIs(alike(new, quarter_of(new, sight, quarter), expected), True)

    def test_a_colour_and_a_look(self):
        table = table_of("abc", Random(81))
        for turn in TURNS:
            for pane in range(5):
                self.assert_mixed(HOUSE, "a", (pane, turn), table, SPOTS[::4])
                self.assert_mixed(HOUSE, (pane, turn), "b", table, SPOTS[1::4])

    def test_looks_by_all_turns(self):
        table = table_of("abc", Random(82))
        for by in TURNS:
            for turn in TURNS:
                self.assert_mixed(HOUSE, (0, by), (1, turn), table, SPOTS[::11])
                self.assert_mixed(HOUSE, (1, by), (1, turn), table, SPOTS[1::11])

    def test_none_where_either_has_none(self):
        table = table_of("abc", Random(83))
        for one, other in ((2, 2), (2, 0), (0, 2)):
            new, sight = mixed(HOUSE, (one, 3), (other, 1), table)
            self.assertIs(alike(new, sight, (2, 0)), True)
        new, sight = mixed(HOUSE, "a", (2, 1), {})
        self.assertIs(alike(new, sight, (2, 0)), True)
        house = (("a", (0, 0), "b", "b"), ("a", "b", "b", (1, 0)))
        self.assert_mixed(house, (0, 0), (1, 0), table)

    def test_drawn_houses(self):
        rng = Random(84)
        for house in some_houses(120, 84):
            colours = ["a", "b", "c", "zz"]
            one, other = rng.choice(sights_of(house)), rng.choice(sights_of(house))
            self.assert_mixed(house, one, other, table_of(colours, rng), rng.sample(SPOTS, 60))

    def test_a_pair_that_is_lacking(self):
        self.assert_refused(("a", "b"), (), "a", "b", {("b", "a"): "c"})
        self.assert_refused(("a", "b"), (), "a", "b", {})
        self.assert_refused(("b", "b"), HOUSE, (3, 0), "b", {("a", "b"): "c"})
        self.assert_refused(("b", "a"), HOUSE, (3, 0), (4, 0), {("a", "a"): "c", ("a", "b"): "c"})

    def test_the_least_pair_that_is_lacking(self):
        self.assert_refused(("a", "a"), HOUSE, (3, 0), (4, 0), {})
        self.assert_refused(("a", "b"), HOUSE, (3, 0), (4, 0), {("a", "a"): "c"})
        # By the tuples: first by the first one's colour, however far off it is.
        house = (("c", "b", "b", (1, 0)), ("b", "b", "b", "a"), ("a", "a", "a", (3, 0)), ("a", "a", "a", "zz"))
        self.assert_refused(("a", "zz"), house, (0, 0), (2, 0), {})
        self.assert_refused(("b", "a"), house, (0, 0), (2, 0), {("a", "zz"): "b"})
        self.assert_refused(("c", "a"), house, (0, 0), (2, 0), {("a", "zz"): "b", ("b", "a"): "c"})
        # A shorter text that another one begins with stands ahead of it.
        house = (("ab", "a", "b", "aa"),)
        self.assert_refused(("a", "z"), house, (0, 0), "z", {})
        self.assert_refused(("aa", "z"), house, (0, 0), "z", {("a", "z"): "b"})

    def test_no_refusal_for_a_pair_that_is_never_met(self):
        # Both have a and b, but never at one spot.
        self.assert_mixed(HOUSE, (3, 0), (3, 0), {("a", "a"): "p", ("b", "b"): "q"})
        self.assert_mixed(HOUSE, (3, 0), (3, 2), {("a", "b"): "p", ("b", "a"): "q"})
        # What stands below a bottomless spot alone is met by nothing.
        self.assert_mixed(HOUSE, (2, 0), (0, 1), {})

    def test_just_the_pairs_that_are_met_will_do(self):
        rng = Random(85)
        refused = 0
        for house in some_houses(120, 85):
            one, other = rng.choice(sights_of(house)), rng.choice(sights_of(house))
            met = pairs_met(house, one, other)
            table = {pair: rng.choice("pqr") for pair in met}
            self.assert_mixed(house, one, other, table, rng.sample(SPOTS, 20))
            if met:
                gone = rng.sample(met, rng.randrange(1, len(met) + 1))
                self.assert_refused(min(gone), house, one, other, {pair: "p" for pair in met if pair not in gone})
                refused += 1
        self.assertTrue(refused > 60, refused)

    def test_pictures_of_8_panes_each(self):
        rng = Random(86)
        for looks, colours in ((0.5, LETTERS), (0.85, LETTERS), (0.9, "ab")):
            house = eight_each(looks, 87, colours)
            table = table_of(colours, rng)
            self.assert_mixed(house, (0, 3), (8, 6), table, SPOTS[::3] + some_spots(0, 4)[::9])
            met = pairs_met(house, (0, 3), (8, 6))
            self.assert_refused(met[-1], house, (0, 3), (8, 6), {pair: "p" for pair in met[:-1]})

    def test_turned_both_it_is_turned(self):
        table = table_of("abc", Random(88))
        for turn in TURNS:
            new, sight = mixed(HOUSE, (0, 2), (1, 7), table)
            newer, other = mixed(new, turned((0, 2), turn), turned((1, 7), turn), table)
            self.assertIs(alike(newer, turned(sight, turn), other), True)

    def test_a_refusal_changes_nothing(self):
        table = {("a", "a"): "b"}
        self.assertRaises(NoMix, mixed, HOUSE, (0, 0), (1, 0), table)
        self.assertEqual(table, {("a", "a"): "b"})

    def test_nothing_handed_in_is_changed_or_kept(self):
        table = {("a", "b"): "p", ("b", "b"): "q"}
        new, sight = mixed(HOUSE, (3, 0), "b", table)
        self.assertEqual(table, {("a", "b"): "p", ("b", "b"): "q"})
        table.clear()
        self.assertEqual(quarter_of(new, sight, 0), "p")

    def test_told_again_the_same(self):
        table = table_of("abc", Random(89))
        self.assertEqual(mixed(HOUSE, (0, 1), (1, 2), table), mixed(HOUSE, (0, 1), (1, 2), table))

    def test_by_name(self):
        table = {("a", "b"): "c"}
        self.assertEqual(mixed(table=table, other="b", one="a", house=()), mixed((), "a", "b", table))


class Laid(Case):
    def test_colours(self):
        self.assertEqual(laid((), "a", "b", bare="a")[1], "b")
        self.assertEqual(laid((), "a", "b", bare="b")[1], "a")
        self.assertEqual(laid((), "a", "b", bare="c")[1], "a")
        self.assertEqual(laid((), "a", "a", bare="a")[1], "a")

    def test_bare_is_seen_through(self):
        new, sight = laid(HOUSE, (3, 0), (0, 0), bare="a")
        for quarter, expected in enumerate(["a", "b", "b", "b"]):
            self.assertIs(alike(new, quarter_of(new, sight, quarter), expected), True)
        new, sight = laid(HOUSE, (3, 0), (0, 0), bare="b")
        for quarter, expected in enumerate(["a", "a", "c", (1, 1)]):
            self.assertIs(alike(new, quarter_of(new, sight, quarter), expected), True)

    def test_nothing_bare(self):
        new, sight = laid(HOUSE, (0, 3), (1, 1), bare="zz")
        self.assertIs(alike(new, sight, (0, 3)), True)

    def test_all_bare(self):
        house = HOUSE + (("a", "a", (6, 3), "a"), ("a",) * 4)
        new, sight = laid(house, (5, 2), (1, 1), bare="a")
        self.assertIs(alike(new, sight, (1, 1)), True)

    def test_a_colour_and_a_look(self):
        for turn in TURNS:
            for pane in range(5):
                self.assert_laid(HOUSE, "a", (pane, turn), "a", SPOTS[::4])
                self.assert_laid(HOUSE, "a", (pane, turn), "b", SPOTS[::4])
                self.assert_laid(HOUSE, (pane, turn), "c", "a", SPOTS[::4])

    def test_looks_by_all_turns(self):
        for by in TURNS:
            for turn in TURNS:
                self.assert_laid(HOUSE, (0, by), (1, turn), "a", SPOTS[::11])
                self.assert_laid(HOUSE, (1, by), (0, turn), "b", SPOTS[1::11])

    def test_no_colour_is_not_bare(self):
        new, sight = laid(HOUSE, (2, 3), (0, 0), bare="a")
        self.assertIs(alike(new, sight, (2, 0)), True)
        house = (("a", (0, 0), "b", "b"),)
        new, sight = laid(house, (0, 0), "z", bare="a")
        self.assertIs(colour_by_steps(new, sight, ((), (1,))), None)
        self.assertEqual(colour_by_steps(new, sight, ((1, 1), (0,))), "z")

    def test_bare_shows_what_has_no_colour(self):
        new, sight = laid(HOUSE, (3, 0), (2, 0), bare="a")
        self.assertIs(colour_by_steps(new, sight, ((0,), (1,))), None)
        self.assertEqual(colour_by_steps(new, sight, ((2,), (1,))), "b")

    def test_drawn_houses(self):
        rng = Random(91)
        for house in some_houses(150, 91):
            one, other = rng.choice(sights_of(house)), rng.choice(sights_of(house))
            self.assert_laid(house, one, other, rng.choice("abc"), rng.sample(SPOTS, 60))

    def test_pictures_of_8_panes_each(self):
        for looks, colours in ((0.5, LETTERS), (0.85, LETTERS), (0.95, "ab"), (0.98, "a")):
            house = eight_each(looks, 92, colours)
            self.assert_laid(house, (0, 3), (8, 6), "a", SPOTS[::3] + some_spots(0, 4)[::9])

    def test_bare_by_name_alone(self):
        self.assertRaises(TypeError, laid, HOUSE, (0, 0), (1, 0), "a")
        self.assertRaises(TypeError, laid, HOUSE, (0, 0), (1, 0))
        told = laid(HOUSE, (0, 1), (1, 0), bare="a")
        self.assertEqual(laid(bare="a", other=(1, 0), one=(0, 1), house=HOUSE), told)


class Interface(unittest.TestCase):
    def test_each_is_defined_in_its_file(self):
        for function in (mixed, laid):
            self.assertEqual(function.__module__, "wellpanes.mixing")

    def test_pairs_met_are_those_at_spots(self):
        house = random_house(Random(93), 2, "ab", 0.4)
        for one, other in product(looks_of(house)[::3], repeat=2):
            at_spots = {(colour_by_steps(house, one, spot), colour_by_steps(house, other, spot)) for spot in SPOTS}
            self.assertEqual(set(pairs_met(house, one, other)), {pair for pair in at_spots if None not in pair})


if __name__ == "__main__":
    unittest.main()
