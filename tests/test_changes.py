import unittest
from random import Random

from pictures import (
    QUARTERS, TURNS, begins_with, colour_by_steps, looks_of, random_house, rest_of, rows_to, sights_of, some_houses,
    some_spots)
from wellpanes.alike import alike
from wellpanes.changes import joined, painted, recoloured
from wellpanes.panes import is_house, is_sight, quarter_of, sight_at, turned

HOUSE = (
    ("a", "b", "c", (1, 1)),
    ("d", (0, 6), "e", (1, 0)),
    ((2, 0), (2, 1), (2, 2), (2, 3)),
)
SPOTS = some_spots()


class Case(unittest.TestCase):
    def assert_sound(self, house, told):
        """Told is a house that begins with this one's panes, and a sight of it."""
        self.assertIs(type(told), tuple)
        new, sight = told
        self.assertEqual(new[:len(house)], house)
        self.assertIs(is_house(new), True)
        self.assertIs(is_sight(new, sight), True)
        return new, sight

    def assert_painted(self, house, sight, row, what, spots):
        new, seen = self.assert_sound(house, painted(house, sight, row, what))
        for spot in spots:
            expected = colour_by_steps(house, sight, spot)
            if begins_with(spot, row):
                expected = colour_by_steps(house, what, rest_of(spot, len(row)))
            self.assertEqual(colour_by_steps(new, seen, spot), expected, (house, sight, row, what, spot))


class Painted(Case):
    def test_one_quarter(self):
        for quarter in QUARTERS:
            new, sight = self.assert_sound(HOUSE, painted(HOUSE, (0, 0), (quarter,), "z"))
            for other in QUARTERS:
                expected = "z" if other == quarter else HOUSE[0][other]
                self.assertIs(alike(new, quarter_of(new, sight, other), expected), True)

    def test_the_bare_row(self):
        for what in ("z", (1, 3)):
            for sight in ("a", (0, 5)):
                new, told = self.assert_sound(HOUSE, painted(HOUSE, sight, (), what))
                self.assertIs(alike(new, told, what), True)
        self.assertEqual(painted((), "a", (), "b")[1], "b")

    def test_a_row_through_looks_turned_by_each_turn(self):
        for turn in TURNS:
            for by in TURNS:
                house = (("a", "b", "c", (1, by)), ("d", "e", "f", "g"))
                for row in rows_to(2):
                    self.assert_painted(house, (0, turn), row, "z", some_spots(2, 1))

    def test_the_quarter_is_the_one_that_is_seen(self):
        # As a clock goes, c is at the top left then, a at the top right, d at the bottom left.
        house = (("a", "b", "c", "d"),)
        new, sight = painted(house, (0, 1), (2,), "z")
        self.assertEqual([sight_at(new, sight, (quarter,)) for quarter in QUARTERS], ["c", "a", "z", "b"])

    def test_a_row_through_colours(self):
        for row in rows_to(3):
            self.assert_painted((), "a", row, "z", SPOTS)
        self.assert_painted(HOUSE, (0, 0), (0, 3, 2, 1), (0, 2), SPOTS)

    def test_into_the_pane_itself(self):
        for turn in TURNS:
            for row in rows_to(2):
                self.assert_painted(HOUSE, (0, turn), row, (0, 0), SPOTS[::3])
                self.assert_painted(HOUSE, (0, turn), row, (0, turn), SPOTS[1::3])
                self.assert_painted(HOUSE, (2, turn), row, (1, turn), SPOTS[2::3])

    def test_what_has_no_colour(self):
        new, sight = painted(HOUSE, "a", (1,), (2, 0))
        self.assertIs(colour_by_steps(new, sight, ((1,), (0,))), None)
        self.assertEqual(colour_by_steps(new, sight, ((0,), (1,))), "a")

    def test_what_changes_nothing(self):
        new, sight = painted(HOUSE, (0, 3), (1, 0), sight_at(HOUSE, (0, 3), (1, 0)))
        self.assertIs(alike(new, sight, (0, 3)), True)

    def test_the_plain_sentence_of_drawn_houses(self):
        rng = Random(71)
        for house in some_houses(120, 71):
            sight, what = rng.choice(sights_of(house)), rng.choice(sights_of(house))
            row = rng.choice(rows_to(3))
            self.assert_painted(house, sight, row, what, rng.sample(SPOTS, 60) + [(row, (0,)), (row + (1,), (2, 1))])

    def test_a_row_of_60_in_a_house_of_24_panes(self):
        rng = Random(72)
        house = random_house(rng, 24, "abcdefghijkl", 0.9)
        row = tuple([rng.choice(QUARTERS) for _ in range(60)])
        spots = [(row, (0, 1)), (row + (3,), (2,)), (row[:59], (row[59],)), (row[:59] + ((row[59] + 1) % 4,), (1, 3))]
        self.assert_painted(house, (5, 6), row, (7, 2), SPOTS + spots)
        self.assert_painted(house, "a", row, "z", SPOTS + spots)

    def test_what_is_told_may_be_painted_again(self):
        house, sight = HOUSE, (0, 0)
        for row in ((0,), (3, 1), (3, 1, 2), (), (2, 2)):
            self.assert_painted(house, sight, row, "z", SPOTS)
            house, sight = painted(house, sight, row, "z")

    def test_by_name(self):
        self.assertEqual(painted(what="b", row=(), sight="a", house=()), painted((), "a", (), "b"))

    def test_told_again_the_same(self):
        self.assertEqual(painted(HOUSE, (0, 1), (1, 2), "z"), painted(HOUSE, (0, 1), (1, 2), "z"))


class Joined(Case):
    def assert_joined(self, house, four):
        new, sight = self.assert_sound(house, joined(house, four))
        for quarter in QUARTERS:
            self.assertIs(alike(new, quarter_of(new, sight, quarter), four[quarter]), True)

    def test_some(self):
        self.assert_joined((), ["a", "b", "c", "d"])
        self.assert_joined((), ["a"] * 4)
        self.assert_joined(HOUSE, [(0, 0), (0, 1), "z", (2, 7)])
        for turn in TURNS:
            self.assert_joined(HOUSE, [(1, turn)] * 4)

    def test_drawn_houses(self):
        rng = Random(73)
        for house in some_houses(60, 73):
            self.assert_joined(house, [rng.choice(sights_of(house)) for _ in QUARTERS])

    def test_a_tuple_of_four(self):
        self.assert_joined(HOUSE, ((0, 3), "a", (1, 1), "b"))

    def test_nothing_handed_in_is_changed_or_kept(self):
        four = [(0, 0), "a", "b", "c"]
        new, sight = joined(HOUSE, four)
        self.assertEqual(four, [(0, 0), "a", "b", "c"])
        four[1] = "z"
        self.assertEqual(quarter_of(new, sight, 1), "a")

    def test_by_name(self):
        self.assertEqual(joined(four=["a", "b", "c", "d"], house=HOUSE), joined(HOUSE, ["a", "b", "c", "d"]))


class Recoloured(Case):
    def assert_recoloured(self, house, sight, colours, spots):
        new, seen = self.assert_sound(house, recoloured(house, sight, colours))
        for spot in spots:
            was = colour_by_steps(house, sight, spot)
            expected = colours[was] if was in colours else was
            self.assertEqual(colour_by_steps(new, seen, spot), expected, (house, sight, colours, spot))

    def test_a_colour(self):
        self.assertEqual(recoloured((), "a", {"a": "b", "b": "c"})[1], "b")
        self.assertEqual(recoloured((), "c", {"a": "b", "b": "c"})[1], "c")
        self.assertEqual(recoloured(HOUSE, "a", {})[1], "a")

    def test_all_at_once(self):
        house = (("a", "b", "c", "d"),)
        new, sight = recoloured(house, (0, 0), {"a": "b", "b": "a", "c": "d"})
        self.assertEqual([quarter_of(new, sight, quarter) for quarter in QUARTERS], ["b", "a", "d", "d"])
        for colours in ({"a": "b", "b": "c", "c": "a"}, {"c": "b", "b": "a", "a": "c"}):
            self.assert_recoloured(house, (0, 3), colours, SPOTS)

    def test_other_colours_stay(self):
        for turn in TURNS:
            self.assert_recoloured(HOUSE, (0, turn), {"d": "x", "zz": "y"}, SPOTS)
            self.assert_recoloured(HOUSE, (1, turn), {}, SPOTS)

    def test_spots_without_a_colour_stay(self):
        new, sight = recoloured(HOUSE, (2, 5), {"a": "b"})
        self.assertIs(alike(new, sight, (2, 0)), True)

    def test_other_sights_stay(self):
        new, _ = recoloured(HOUSE, (0, 0), {"a": "z"})
        self.assertEqual(colour_by_steps(new, (0, 0), ((0,), (0,))), "a")
        self.assertEqual(colour_by_steps(new, (1, 1), ((0,), (0,))), colour_by_steps(HOUSE, (1, 1), ((0,), (0,))))

    def test_drawn_houses(self):
        rng = Random(74)
        for house in some_houses(100, 74):
            colours = {what: rng.choice("abcxy") for what in rng.sample("abcz", rng.randrange(5))}
            self.assert_recoloured(house, rng.choice(sights_of(house)), colours, rng.sample(SPOTS, 60))

    def test_again_and_again(self):
        house, sight = random_house(Random(75), 24, "abcdefghijkl", 0.8), (3, 1)
        for times in range(20):
            house, sight = self.assert_sound(house, recoloured(house, sight, {"a": "b", "b": "a"}))
        self.assertIs(alike(house, sight, (3, 1)), True)

    def test_nothing_handed_in_is_changed_or_kept(self):
        colours = {"a": "b"}
        new, sight = recoloured(HOUSE, (0, 0), colours)
        self.assertEqual(colours, {"a": "b"})
        colours["a"] = "z"
        self.assertEqual(quarter_of(new, sight, 0), "b")

    def test_by_name(self):
        told = recoloured(HOUSE, (0, 1), {"a": "b"})
        self.assertEqual(recoloured(colours={"a": "b"}, sight=(0, 1), house=HOUSE), told)


class Interface(unittest.TestCase):
    def test_each_is_defined_in_its_file(self):
        for function in (painted, joined, recoloured):
            self.assertEqual(function.__module__, "wellpanes.changes")

    def test_turned_looks_are_other_ones_here(self):
        # The pictures above would tell little were they their own turns.
        self.assertIs(alike(HOUSE, (0, 0), turned((0, 0), 1)), False)
        self.assertEqual(len(looks_of(HOUSE)), 24)


if __name__ == "__main__":
    unittest.main()
