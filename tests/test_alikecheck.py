import unittest
from random import Random

from pictures import QUARTERS, colour_by_steps, deep_list, deep_tuple, looks_of, random_house, rows_to, some_houses
from wellpanes.alike import pairing, parted
from wellpanes.alikecheck import shows_alike, shows_parted

# 0 is all red, 1 too; 2 and 3 are alike; 4 has no colour.
HOUSE = (
    ("red", "red", "red", "red"),
    ((0, 3), "red", "red", (0, 6)),
    ("a", "b", (3, 0), "red"),
    ("a", "b", (2, 0), (1, 2)),
    ((4, 0), (4, 0), (4, 1), (4, 0)),
)

RED = [("red", "red", 0)]
# Each with its least numbers.
ONE_RED = [((1, 0), "red", 2), ((0, 3), "red", 1), ((0, 6), "red", 1), ("red", "red", 0)]
TWO = [
    ((2, 0), (3, 0), 0), ("a", "a", 0), ("b", "b", 0), ((3, 0), (2, 0), 0), ("red", (1, 2), 2), ((1, 2), "red", 2),
    ("red", (0, 1), 1), ("red", (0, 4), 1), ((0, 1), "red", 1), ((0, 4), "red", 1), ("red", "red", 0),
]
NO_THINGS = [
    None, True, False, 0, 1, -1, "", "red", "a", (), ((),), [()], [[]], [None], [True], [0], ["red"], [("red",)],
    [("red", "red")], [("red", "red", 0, 0)], [["red", "red", 0]], (("red", "red", 0),), ["red", "red", 0],
    ("red", "red", 0), [(("red", "red"), 0)], ((), (0,)), [((), (0,), 0)], deep_tuple("red", 10), deep_list("red", 10),
    [deep_tuple(("red", "red", 0), 7)], deep_list(("red", "red", 0), 8),
]
NO_SIGHTS = [
    None, True, False, 0, 1, "", "Red", "red ", "ninechars", (), (0,), (0, 0, 0), (5, 0), (-1, 0), (0, 8), (0, -1),
    (True, 0), (0, True), (False, 0), (0, False), ("0", 0), (0, None), [0, 0], ["red"], ("red",), ((0, 0),),
    deep_tuple((0, 0), 6), deep_list(0, 7),
]
NO_NUMBERS = [None, True, False, -1, -10, "0", "", "red", (0,), [0], (), [], deep_tuple(0, 7)]


class ShowsAlike(unittest.TestCase):
    def test_pairings(self):
        self.assertIs(shows_alike((), "red", "red", RED), True)
        self.assertIs(shows_alike(HOUSE, "red", "red", RED), True)
        self.assertIs(shows_alike(HOUSE, (1, 0), "red", ONE_RED), True)
        self.assertIs(shows_alike(HOUSE, (2, 0), (3, 0), TWO), True)
        self.assertIs(shows_alike(HOUSE, (2, 0), (3, 0), TWO[::-1]), True)

    def test_each_pair_in_it_is_shown(self):
        for one, other, _ in TWO:
            self.assertIs(shows_alike(HOUSE, one, other, TWO), True)

    def test_further_pairs_and_other_numbers(self):
        self.assertIs(shows_alike(HOUSE, "red", "red", RED + [("blue", "blue", 7)]), True)
        self.assertIs(shows_alike(HOUSE, (2, 0), (3, 0), TWO + ONE_RED[:3]), True)
        self.assertIs(shows_alike(HOUSE, "red", "red", [("red", "red", 10 ** 30)]), True)
        higher = [(one, other, 3 * number + 4) for one, other, number in TWO]
        self.assertIs(shows_alike(HOUSE, (2, 0), (3, 0), higher), True)
        looks = [("a", "a", 9), ("b", "b", 8), ((2, 0), (3, 0), 0), ((3, 0), (2, 0), 5)] + TWO[4:]
        self.assertIs(shows_alike(HOUSE, (2, 0), (3, 0), looks), True)

    def test_looks_without_a_colour(self):
        told = [((4, turn), (4, other), 0) for turn in range(8) for other in range(8)]
        self.assertIs(shows_alike(HOUSE, (4, 0), (4, 5), told), True)
        self.assertIs(shows_alike(HOUSE, (4, 0), (4, 0), told[:1] + [((4, 1), (4, 1), 0)]), False)
        self.assertIs(shows_alike(HOUSE, (4, 0), (4, 0), [((4, 0), (4, 0), 3), ((4, 1), (4, 1), 4)]), False)

    def test_both_are_in_it_in_this_order(self):
        self.assertIs(shows_alike(HOUSE, "red", (1, 0), ONE_RED), False)
        self.assertIs(shows_alike(HOUSE, (1, 1), "red", ONE_RED), False)
        self.assertIs(shows_alike(HOUSE, "blue", "blue", RED), False)
        self.assertIs(shows_alike(HOUSE, (1, 0), (1, 0), ONE_RED), False)
        self.assertIs(shows_alike(HOUSE, "red", "red", []), False)

    def test_no_triple_may_be_missing(self):
        for told, one, other in ((ONE_RED, (1, 0), "red"), (TWO, (2, 0), (3, 0))):
            for at in range(len(told)):
                self.assertIs(shows_alike(HOUSE, one, other, told[:at] + told[at + 1:]), False, told[at])

    def test_no_pair_twice(self):
        for told, one, other in ((RED, "red", "red"), (ONE_RED, (1, 0), "red"), (TWO, (2, 0), (3, 0))):
            for first, second, number in told:
                self.assertIs(shows_alike(HOUSE, one, other, told + [(first, second, number)]), False)
                self.assertIs(shows_alike(HOUSE, one, other, [(first, second, number + 9)] + told), False)

    def test_unlike_colours(self):
        self.assertIs(shows_alike(HOUSE, "red", "blue", [("red", "blue", 0)]), False)
        self.assertIs(shows_alike(HOUSE, "red", "red", RED + [("red", "blue", 1)]), False)
        told = [((1, 0), "blue", 2), ((0, 3), "blue", 1), ((0, 6), "blue", 1), ("red", "blue", 0)]
        self.assertIs(shows_alike(HOUSE, (1, 0), "blue", told), False)

    def test_numbers_that_do_not_fall(self):
        for at, part in ((0, 1), (0, 0), (1, 0), (2, 0), (3, 1), (3, 2), (1, 2), (2, 2), (1, 3)):
            told = list(ONE_RED)
            told[at] = told[at][:2] + (part,)
            self.assertIs(shows_alike(HOUSE, (1, 0), "red", told), False, told)
        for at, part in ((4, 1), (5, 1), (6, 0), (7, 0), (8, 2), (9, 2), (10, 1)):
            told = list(TWO)
            told[at] = told[at][:2] + (part,)
            self.assertIs(shows_alike(HOUSE, (2, 0), (3, 0), told), False, told)

    def test_each_quarter_counts_in_the_fall(self):
        for quarter in QUARTERS:
            pane = ["red"] * 4
            pane[quarter] = (0, 0)
            house = (tuple(pane),)
            for number in range(3):
                told = [((0, 0), "red", number), ("red", "red", 0)]
                self.assertIs(shows_alike(house, (0, 0), "red", told), False)
                told = [("red", (0, 0), number), ("red", "red", 0)]
                self.assertIs(shows_alike(house, "red", (0, 0), told), False)

    def test_each_quarter_must_be_there(self):
        for quarter in QUARTERS:
            pane = ["red"] * 4
            pane[quarter] = "blue"
            house = (tuple(pane), tuple(pane))
            self.assertIs(shows_alike(house, (0, 0), (1, 0), [((0, 0), (1, 0), 0)] + RED), False)
            self.assertIs(shows_alike(house, (0, 0), (1, 0), [((0, 0), (1, 0), 0), ("blue", "blue", 0)]), False)
            self.assertIs(shows_alike(house, (0, 0), (1, 0), [((0, 0), (1, 0), 0), ("blue", "blue", 0)] + RED), True)

    def test_wrong_sights(self):
        for wrong in NO_SIGHTS:
            with self.subTest(wrong):
                self.assertIs(shows_alike(HOUSE, "red", "red", RED + [(wrong, "blue", 0)]), False)
                self.assertIs(shows_alike(HOUSE, "red", "red", RED + [("blue", wrong, 0)]), False)
                self.assertIs(shows_alike(HOUSE, "red", "red", [(wrong, wrong, 0)] + RED), False)

    def test_wrong_numbers(self):
        for wrong in NO_NUMBERS:
            with self.subTest(wrong):
                self.assertIs(shows_alike(HOUSE, "red", "red", [("red", "red", wrong)]), False)
                self.assertIs(shows_alike(HOUSE, "red", "red", RED + [("blue", "blue", wrong)]), False)
                for at in range(4):
                    told = list(ONE_RED)
                    told[at] = told[at][:2] + (wrong,)
                    self.assertIs(shows_alike(HOUSE, (1, 0), "red", told), False)

    def test_truths_are_no_numbers(self):
        self.assertIs(shows_alike(HOUSE, (0, 0), "red", [((0, 0), "red", 1), ("red", "red", 0)]), True)
        self.assertIs(shows_alike(HOUSE, (0, 0), "red", [((0, 0), "red", True), ("red", "red", 0)]), False)
        self.assertIs(shows_alike(HOUSE, (0, 0), "red", [((0, 0), "red", 1), ("red", "red", False)]), False)
        self.assertIs(shows_alike(HOUSE, (0, 0), "red", [((0, False), "red", 1), ("red", "red", 0)]), False)
        self.assertIs(shows_alike(HOUSE, (1, 0), "red", [((True, 0), "red", 2)] + ONE_RED[1:]), False)

    def test_other_things(self):
        for thing in NO_THINGS:
            with self.subTest(thing):
                self.assertIs(shows_alike(HOUSE, "red", "red", thing), False)
                if isinstance(thing, list):
                    self.assertIs(shows_alike(HOUSE, "red", "red", RED + thing), False)
        self.assertIs(shows_alike(HOUSE, (1, 0), "red", tuple(ONE_RED)), False)
        self.assertIs(shows_alike(HOUSE, (1, 0), "red", [list(part) for part in ONE_RED]), False)
        self.assertIs(shows_alike(HOUSE, (1, 0), "red", ONE_RED[:3] + [["red", "red", 0]]), False)

    def test_what_is_told_is_shown(self):
        shown = 0
        rng = Random(41)
        for house in some_houses(150, 8):
            one, other = rng.choice(looks_of(house) + ["a"]), rng.choice(looks_of(house))
            told = pairing(house, one, other)
            if told is not None:
                self.assertIs(shows_alike(house, one, other, told), True)
                shown += 1
        self.assertTrue(shown > 40)

    def test_nothing_handed_in_is_changed(self):
        told = list(TWO)
        shows_alike(HOUSE, (2, 0), (3, 0), told)
        self.assertEqual(told, TWO)

    def test_by_name(self):
        self.assertIs(shows_alike(thing=ONE_RED, other="red", one=(1, 0), house=HOUSE), True)


class ShowsParted(unittest.TestCase):
    def test_spots_that_part(self):
        self.assertIs(shows_parted((), "red", "blue", ((), (0,))), True)
        self.assertIs(shows_parted((), "red", "blue", ((0, 1), (2, 3, 3))), True)
        self.assertIs(shows_parted(HOUSE, (2, 0), "a", ((1,), (0,))), True)
        self.assertIs(shows_parted(HOUSE, "b", (2, 0), ((), (0,))), True)
        # One is told None there.
        self.assertIs(shows_parted(HOUSE, (2, 0), "a", ((), (2,))), True)
        self.assertIs(shows_parted(HOUSE, (4, 0), (0, 0), ((), (2, 1))), True)

    def test_spots_that_do_not(self):
        self.assertIs(shows_parted((), "red", "red", ((), (0,))), False)
        self.assertIs(shows_parted(HOUSE, (2, 0), "a", ((0,), (0,))), False)
        self.assertIs(shows_parted(HOUSE, (1, 0), "red", ((3,), (0,))), False)
        self.assertIs(shows_parted(HOUSE, (4, 0), (4, 1), ((3,), (0,))), False)
        self.assertIs(shows_parted(HOUSE, (2, 0), (4, 0), ((), (2,))), False)

    def test_all_spots_of_a_house(self):
        rng = Random(42)
        for looks in (0.4, 0.8):
            house = random_house(rng, 3, "ab", looks)
            sights = looks_of(house) + ["a"]
            for row, again in [(row, again) for row in rows_to(2) for again in rows_to(2)[1:]]:
                one, other = rng.choice(sights), rng.choice(sights)
                expected = colour_by_steps(house, one, (row, again)) != colour_by_steps(house, other, (row, again))
                self.assertIs(shows_parted(house, one, other, (row, again)), expected)

    def test_what_is_no_spot(self):
        for wrong in NO_THINGS + [
            ((), ()), ((0, 1), ()), ((4,), (0,)), ((0,), (4,)), ((-1,), (0,)), ((0,), (-1,)), ((True,), (0,)),
            ((), (True,)), ((), (False,)), ((False,), (0,)), ([], (0,)), ((), [0]), [(), (0,)], ((),), ((0,),),
            ((), (0,), (0,)), ("", "0"), ("01", (0,)), ((), "0"), ((None,), (0,)), ((), (None,)), ((), 0), (0, 0),
            ((), (0, (0,))), ((10 ** 20,), (0,)),
        ]:
            if wrong == ((), (0,)):
                continue
            with self.subTest(wrong):
                self.assertIs(shows_parted(HOUSE, "red", "blue", wrong), False)

    def test_what_is_told_is_shown(self):
        rng = Random(43)
        for house in some_houses(150, 9):
            one, other = rng.choice(looks_of(house) + ["a", "b"]), rng.choice(looks_of(house) + ["a"])
            told = parted(house, one, other)
            if told is not None:
                self.assertIs(shows_parted(house, one, other, told), True)

    def test_by_name(self):
        self.assertIs(shows_parted(thing=((1,), (0,)), other="a", one=(2, 0), house=HOUSE), True)


class Interface(unittest.TestCase):
    def test_each_is_defined_in_its_file(self):
        for function in (shows_alike, shows_parted):
            self.assertEqual(function.__module__, "wellpanes.alikecheck")


if __name__ == "__main__":
    unittest.main()
