import unittest
from itertools import product
from random import Random

from pictures import TURNS, deep_list, deep_tuple, sights_of, some_houses
from wellpanes.fewestcheck import shows_fewest
from wellpanes.least import fewest, fewest_paper

# Pane 1 leads to 0, turned by 1 (b, a, b, a); 2 has just one colour, and a corner where it never ends.
HOUSE = (
    ("a", "a", "b", "b"),
    ("a", "b", "a", (0, 1)),
    ("a", "a", "a", (2, 0)),
    ("a", "a", "a", "a"),
)
SIGHTS = [(1, 0), "a"]
WAYS = [(0, ()), (0, (3,))]
PARTED = [
    (0, 1, 0, ((0,), (0,))),
    (0, 1, 1, ((0,), (0,))),
    (0, 1, 2, ((0, 0), (0,))),
    (0, 1, 3, ((2,), (0,))),
    (0, 1, 4, ((2, 0), (0,))),
    (0, 1, 5, ((1,), (0,))),
    (0, 1, 6, ((0,), (0,))),
    (0, 1, 7, ((0,), (0,))),
]
OWN = [
    (0, 0, 0, ((0,), (0,))), (0, 0, 0, ((1,), (0,))),
    (1, 1, 0, ((0,), (3,))), (1, 1, 0, ((), (1,))),
]
PAPER = (WAYS, PARTED + OWN)
# Of pane 2 alone: at 333.. it's told None.
BOTTOMLESS = ([(0, ())], [(0, 0, 0, ((), (3,)))])

NO_NUMBERS = [None, True, False, -1, "0", "", (0,), [0], (), [], deep_tuple(0, 6), deep_list(0, 6)]
NO_THINGS = [
    None, True, False, 0, 1, "", "a", "[]", (), [], ([],), [[], []], ([], [], []), ((), ()), ([], ()), ((), []),
    (None, None), ([], None), (None, []), ("", ""), (0, 0), ({}, {}), deep_tuple([], 9), deep_list([], 9),
]


class ShowsFewest(unittest.TestCase):
    def test_of_none(self):
        for house, sights in (((), []), (HOUSE, []), (HOUSE, ["a"]), (HOUSE, [(3, 1)]), (HOUSE, SIGHTS), (HOUSE, ())):
            self.assertIs(shows_fewest(house, sights, 0, ([], [])), True)
        self.assertIs(shows_fewest(HOUSE, SIGHTS, 1, ([], [])), False)
        self.assertIs(shows_fewest(HOUSE, SIGHTS, 0, ([], [(0, 0, 0, ((), (0,)))])), False)
        self.assertIs(shows_fewest(HOUSE, SIGHTS, 0, ([(0, ())], [])), False)

    def test_papers(self):
        self.assertIs(shows_fewest(HOUSE, SIGHTS, 2, PAPER), True)
        self.assertIs(shows_fewest(HOUSE, tuple(SIGHTS), 2, PAPER), True)
        self.assertIs(shows_fewest(HOUSE, SIGHTS, 2, (WAYS, PAPER[1][::-1])), True)
        self.assertIs(shows_fewest(HOUSE, [(2, 0)], 1, BOTTOMLESS), True)
        spots = [(0, 0, 0, spot) for _, _, _, spot in OWN[2:]]
        self.assertIs(shows_fewest(HOUSE, [(1, 0)], 1, ([(0, (3,))], spots)), True)

    def test_other_numbers(self):
        for many in (-1, 0, 1, 3, 24):
            self.assertIs(shows_fewest(HOUSE, SIGHTS, many, PAPER), False)
        self.assertIs(shows_fewest(HOUSE, [(2, 0)], 0, BOTTOMLESS), False)
        self.assertIs(shows_fewest(HOUSE, [(2, 0)], 2, BOTTOMLESS), False)

    def test_further_spots(self):
        more = [
            (0, 0, 0, ((0, 0), (2,))), (1, 1, 0, ((0,), (3,))), (0, 1, 0, ((0,), (0,))), (0, 1, 6, ((0, 1), (2,))),
        ]
        for part in more:
            self.assertIs(shows_fewest(HOUSE, SIGHTS, 2, (WAYS, PAPER[1] + [part])), True)
        self.assertIs(shows_fewest(HOUSE, SIGHTS, 2, (WAYS, more + PAPER[1] + PAPER[1])), True)
        # None beside one colour.
        spots = [(0, 0, 0, ((0,), (1,)))] + BOTTOMLESS[1]
        self.assertIs(shows_fewest(HOUSE, [(2, 0)], 1, (BOTTOMLESS[0], spots)), True)

    def test_no_further_ways(self):
        for way in ((0, ()), (0, (3,))):
            self.assertIs(shows_fewest(HOUSE, SIGHTS, 2, (WAYS + [way], PAPER[1])), False)

    def test_no_spot_may_be_missing(self):
        for at in range(len(PAPER[1])):
            spots = PAPER[1][:at] + PAPER[1][at + 1:]
            self.assertIs(shows_fewest(HOUSE, SIGHTS, 2, (WAYS, spots)), False, PAPER[1][at])
        for way in range(2):
            self.assertIs(shows_fewest(HOUSE, SIGHTS, 2, (WAYS[:way] + WAYS[way + 1:], PAPER[1])), False)
        self.assertIs(shows_fewest(HOUSE, [(2, 0)], 1, (BOTTOMLESS[0], [])), False)

    def test_two_of_unlike_colours(self):
        spots = PARTED + OWN[:1] + [(0, 0, 0, ((0, 2), (0,)))] + OWN[2:]
        self.assertIs(shows_fewest(HOUSE, SIGHTS, 2, (WAYS, spots)), False)
        spots = PARTED + OWN[:3] + [(1, 1, 0, ((2,), (0,)))]
        self.assertIs(shows_fewest(HOUSE, SIGHTS, 2, (WAYS, spots)), False)
        for spots in ([((0,), (0,))], [((0,), (0,)), ((3, 1), (0,))], [((0,), (0,))] * 2):
            paper = ([(0, ())], [(0, 0, 0, spot) for spot in spots])
            self.assertIs(shows_fewest(HOUSE, [(2, 0)], 1, paper), False)

    def test_spots_that_do_not_part(self):
        looks_alike = 0
        for at, part in enumerate(PARTED):
            for row in product(range(4), repeat=2):
                spot = (row, (0,))
                spots = PARTED[:at] + [part[:3] + (spot,)] + PARTED[at + 1:] + OWN
                expected = self.parts(part[2], spot)
                looks_alike += not expected
                self.assertIs(shows_fewest(HOUSE, SIGHTS, 2, (WAYS, spots)), expected, (part, spot))
                self.assertIs(shows_fewest(HOUSE, SIGHTS, 2, (WAYS, PAPER[1] + [part[:3] + (spot,)])), expected)
        self.assertTrue(looks_alike > 20)

    def parts(self, turn, spot):
        # The cells of both, two quarters deep, written out.
        one = [list("aabb"), list("aabb"), list("aaba"), list("aaba")]
        other = [list("bbaa")] * 4
        one = [row[::-1] for row in one] if turn > 3 else one
        for _ in range(turn % 4):
            one = [list(row) for row in zip(*one[::-1])]
        first, second = spot[0]
        across, down = 2 * (first % 2) + second % 2, 2 * (first // 2) + second // 2
        return one[down][across] != other[down][across]

    def test_each_turn_is_the_one_told(self):
        for part, turn in product(PARTED, TURNS):
            if turn != part[2]:
                at = part[2]
                spots = PARTED[:at] + [(0, 1, turn, part[3])] + PARTED[at + 1:] + OWN
                self.assertIs(shows_fewest(HOUSE, SIGHTS, 2, (WAYS, spots)), False)
        for turn in range(1, 8):
            for at in range(8, 12):
                part = PAPER[1][at]
                spots = PAPER[1][:at] + [part[:2] + (turn, part[3])] + PAPER[1][at + 1:]
                self.assertIs(shows_fewest(HOUSE, SIGHTS, 2, (WAYS, spots)), False)
                self.assertIs(shows_fewest(HOUSE, SIGHTS, 2, (WAYS, PAPER[1] + [part[:2] + (turn, part[3])])), False)

    def test_numbers_of_ways(self):
        for one, other in ((1, 0), (0, 2), (2, 2), (1, 2), (-1, 0), (-1, -1), (-2, -1), (0, -1), (2, 0), (0, 10 ** 20)):
            part = (one, other, 0, ((0,), (0,)))
            self.assertIs(shows_fewest(HOUSE, SIGHTS, 2, (WAYS, PAPER[1] + [part])), False, part)

    def test_ways_to_what_they_must_lead_to(self):
        for way in (
            (1, ()), (0, (0,)), (0, (3, 1)), (2, ()), (-1, ()), (-2, ()), (10 ** 20, ()), (0, (4,)), (0, (-1,)),
            (0, [3]), (0, (True,)), (0, None), (0, "3"), (0,), (), (0, (), ()), [0, ()], None, True, 0, "0", "",
            (True, ()), ((), 0),
        ):
            self.assertIs(shows_fewest(HOUSE, SIGHTS, 2, ([WAYS[0], way], PAPER[1])), False, way)
            self.assertIs(shows_fewest(HOUSE, SIGHTS, 2, ([way, WAYS[1]], PAPER[1])), False, way)
        # Two ways to the same picture are not told apart at any spot.
        self.assertIs(shows_fewest(HOUSE, SIGHTS, 2, ([(0, ()), (0, ())], PAPER[1])), False)
        self.assertIs(shows_fewest(HOUSE, SIGHTS, 2, (WAYS[::-1], PAPER[1])), False)

    def test_the_right_one_of_the_sights(self):
        for sights, way in ((["a", (1, 0)], 1), (["a", (0, 0), (1, 0), "b"], 2)):
            self.assertIs(shows_fewest(HOUSE, sights, 2, ([(way, ()), (way, (3,))], PAPER[1])), True)
            self.assertIs(shows_fewest(HOUSE, sights, 2, PAPER), False)
        self.assertIs(shows_fewest(HOUSE, [(0, 1), (1, 0)], 2, ([(1, ()), (0, ())], PAPER[1])), True)

    def test_a_pane_of_one_colour_is_none(self):
        spots = [(0, 0, 0, ((0,), (0,))), (0, 0, 0, ((1,), (0,))), (0, 0, 0, ((), (3,)))]
        self.assertIs(shows_fewest(HOUSE, [(3, 0)], 1, ([(0, ())], spots)), False)

    def test_truths_are_no_numbers(self):
        for wrong in (
            (False, 1, 0, ((0,), (0,))), (0, True, 0, ((0,), (0,))), (0, 1, False, ((0,), (0,))),
            (0, 1, True, ((0,), (0,))), (False, False, 0, ((0,), (0,))), (0, 0, False, ((0,), (0,))),
            (0, 1, 0, ((False,), (0,))), (0, 1, 0, ((0,), (False,))),
        ):
            self.assertIs(shows_fewest(HOUSE, SIGHTS, 2, (WAYS, PAPER[1] + [wrong])), False, wrong)
        self.assertIs(shows_fewest(HOUSE, SIGHTS, 2, ([(False, ()), (0, (3,))], PAPER[1])), False)

    def test_wrong_parts(self):
        right = PARTED[0]
        for at, wrong in product(range(4), NO_NUMBERS + [8, 10 ** 20]):
            part = right[:at] + (wrong,) + right[at + 1:]
            with self.subTest(part):
                self.assertIs(shows_fewest(HOUSE, SIGHTS, 2, (WAYS, PAPER[1] + [part])), False)
                self.assertIs(shows_fewest(HOUSE, SIGHTS, 2, (WAYS, [part] + PAPER[1][1:])), False)
        for wrong in (
            None, True, 0, "", "0", (), (0, 1, 0), right[:3], right + (0,), list(right), right[:3] + ([(0,), (0,)],),
            right[:3] + (((0,), ()),), right[:3] + (([0], (0,)),), right[:3] + (((0,),),), right[:3] + (((4,), (0,)),),
            right[:3] + (((0,), (-1,)),), right[:3] + (((0,), (0,), (0,)),), (right,), [right], deep_tuple(right, 5),
        ):
            with self.subTest(wrong):
                self.assertIs(shows_fewest(HOUSE, SIGHTS, 2, (WAYS, PAPER[1] + [wrong])), False)

    def test_other_things(self):
        for thing in NO_THINGS:
            with self.subTest(thing):
                self.assertIs(shows_fewest(HOUSE, SIGHTS, 2, thing), False)
                self.assertIs(shows_fewest(HOUSE, [], 0, thing), False)
        for thing in (list(PAPER), (tuple(WAYS), PAPER[1]), (WAYS, tuple(PAPER[1])), PAPER + ([],), PAPER[:1], (PAPER,)):
            self.assertIs(shows_fewest(HOUSE, SIGHTS, 2, thing), False)
        for at, wrong in product((0, 1), NO_NUMBERS[:7]):
            self.assertIs(shows_fewest(HOUSE, SIGHTS, 2, (wrong, PAPER[1]) if at == 0 else (WAYS, wrong)), False)

    def test_what_is_told_is_shown(self):
        rng = Random(81)
        for house in some_houses(60, 21):
            sights = [rng.choice(sights_of(house)) for _ in range(rng.randrange(5))]
            many, paper = fewest(house, sights), fewest_paper(house, sights)
            self.assertIs(shows_fewest(house, sights, many, paper), True)
            self.assertIs(shows_fewest(house, sights, many + 1, paper), False)
            self.assertIs(shows_fewest(house, sights, many - 1, paper), False)

    def test_nothing_handed_in_is_changed(self):
        ways, spots = list(WAYS), list(PAPER[1])
        shows_fewest(HOUSE, SIGHTS, 2, (ways, spots))
        self.assertEqual((ways, spots), PAPER)

    def test_by_name(self):
        self.assertIs(shows_fewest(thing=PAPER, many=2, sights=SIGHTS, house=HOUSE), True)


class Interface(unittest.TestCase):
    def test_each_is_defined_in_its_file(self):
        self.assertEqual(shows_fewest.__module__, "wellpanes.fewestcheck")


if __name__ == "__main__":
    unittest.main()
