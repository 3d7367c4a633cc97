import unittest
from itertools import product
from random import Random

from pictures import TURNS, grid_of, looks_of, made_otherwise, random_house, sights_of, some_houses, turned_grid
from wellpanes.alike import alike
from wellpanes.own import own_turns, turns_between
from wellpanes.panes import beside, numbered_on, turned
from wellpanes.turns import behind

ALL = [0, 1, 2, 3, 4, 5, 6, 7]
# Each pane with the turns by which it's itself.
HOUSE = (
    ("a", "b", "c", "d"),
    ("a", "a", "b", "b"),
    ("a", "b", "b", "a"),
    ("a", "b", "a", "b"),
    ((0, 0), (0, 1), (0, 3), (0, 2)),
    ("a", "a", "a", "a"),
    ((5, 3), "a", (5, 6), (5, 0)),
    ((7, 3), (8, 2), (7, 0), (7, 1)),
    ((7, 3), (7, 2), (8, 0), (8, 5)),
    ("a", "a", "a", (9, 0)),
    ((0, 0), (0, 4), (0, 6), (0, 2)),
    ("b", "a", "b", "a"),
    ((3, 0), "c", "c", (11, 0)),
    ((9, 4), (9, 0), (9, 2), (9, 6)),
)
OWN = {
    0: [0], 1: [0, 4], 2: [0, 2, 5, 7], 3: [0, 6], 4: [0, 1, 2, 3], 5: ALL, 6: ALL, 7: ALL, 8: ALL, 9: [0, 7],
    10: [0, 2, 4, 6], 12: [0, 2],
}


class OwnTurns(unittest.TestCase):
    def test_of_colours(self):
        self.assertEqual(own_turns((), "a"), ALL)
        self.assertEqual(own_turns(HOUSE, "zz"), ALL)

    def test_of_looks(self):
        for pane, turns in OWN.items():
            self.assertEqual(own_turns(HOUSE, (pane, 0)), turns, pane)

    def test_of_turned_looks(self):
        # Seen from the picture turned by t, a turn u of it is: back by t, then u, then t.
        for (pane, turns), turn in product(OWN.items(), TURNS):
            expected = [u for u in TURNS if any([behind(v, turn) == behind(turn, u) for v in turns])]
            self.assertEqual(own_turns(HOUSE, (pane, turn)), expected)

    def test_what_the_grid_tells(self):
        rng = Random(61)
        for _ in range(150):
            below = random_house(rng, 2, "ab", 0)
            house = below + (tuple([
                rng.choice(("a", "b", (0, rng.choice(TURNS)), (1, rng.choice(TURNS)))) for _ in range(4)
            ]),)
            grid = grid_of(house, (2, 0), 2)
            self.assertEqual(own_turns(house, (2, 0)), [turn for turn in TURNS if turned_grid(grid, turn) == grid])

    def test_what_is_told_is_the_askers_own(self):
        told = own_turns(HOUSE, (1, 0))
        self.assertIs(type(told), list)
        told.append(7)
        self.assertEqual(own_turns(HOUSE, (1, 0)), [0, 4])
        all_of_them = own_turns((), "a")
        all_of_them.clear()
        self.assertEqual(own_turns((), "a"), ALL)

    def test_by_name(self):
        self.assertEqual(own_turns(sight=(1, 0), house=HOUSE), [0, 4])


class TurnsBetween(unittest.TestCase):
    def test_of_colours(self):
        self.assertEqual(turns_between((), "a", "a"), ALL)
        self.assertEqual(turns_between((), "a", "b"), [])
        self.assertEqual(turns_between(HOUSE, "a", (6, 3)), ALL)
        self.assertEqual(turns_between(HOUSE, (6, 3), "b"), [])
        self.assertEqual(turns_between(HOUSE, (9, 0), "a"), [])

    def test_without_a_colour(self):
        self.assertEqual(turns_between(HOUSE, (7, 3), (8, 2)), ALL)
        self.assertEqual(turns_between(HOUSE, (7, 3), (9, 2)), [])

    def test_of_a_picture_and_its_turns(self):
        for turn in TURNS:
            self.assertEqual(turns_between(HOUSE, (0, 0), (0, turn)), [turn])
        self.assertEqual(turns_between(HOUSE, (0, 3), (0, 0)), [1])
        self.assertEqual(turns_between(HOUSE, (0, 1), (0, 4)), [u for u in TURNS if behind(1, u) == 4])

    def test_one_is_turned_not_the_other(self):
        self.assertEqual(turns_between(HOUSE, (3, 0), (11, 0)), [2, 4])
        self.assertEqual(turns_between(HOUSE, (1, 0), (3, 0)), [3, 7])
        self.assertEqual(turns_between(HOUSE, (3, 0), (1, 0)), [1, 7])
        self.assertEqual(turns_between(HOUSE, (1, 0), (2, 0)), [])

    def test_each_turn_is_told_by_alike(self):
        rng = Random(62)
        for house in some_houses(60, 16):
            one, other = rng.choice(sights_of(house)), rng.choice(sights_of(house))
            expected = [turn for turn in TURNS if alike(house, turned(one, turn), other)]
            self.assertEqual(turns_between(house, one, other), expected)

    def test_by_the_picture_not_by_how_it_was_made(self):
        rng = Random(63)
        house = random_house(rng, 11, "abcdefghijkl", 0.6)
        other, told_there = made_otherwise(rng, house)
        both = beside(house, other)
        for look in looks_of(house)[::7]:
            there = numbered_on(told_there(look), 11)
            self.assertEqual(own_turns(both, there), own_turns(both, look))
            self.assertEqual(turns_between(both, turned(look, 5), there), turns_between(both, turned(look, 5), look))

    def test_what_is_told_is_the_askers_own(self):
        told = turns_between(HOUSE, (1, 0), (3, 0))
        told.append(7)
        self.assertEqual(turns_between(HOUSE, (1, 0), (3, 0)), [3, 7])

    def test_by_name(self):
        self.assertEqual(turns_between(other=(3, 0), house=HOUSE, one=(1, 0)), [3, 7])


class Interface(unittest.TestCase):
    def test_each_is_defined_in_its_file(self):
        for function in (own_turns, turns_between):
            self.assertEqual(function.__module__, "wellpanes.own")


if __name__ == "__main__":
    unittest.main()
