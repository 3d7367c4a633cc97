import unittest
from fractions import Fraction
from itertools import product
from random import Random

from pictures import QUARTERS, TURNS, colour_by_steps, deep_list, deep_tuple, looks_of, quarters_along
from pictures import random_house, some_houses
from wellpanes.spots import colour_at, is_spot, plain, point_of, spot_of

HOUSE = (
    ("red", (0, 3), (1, 5), "blue"),
    ("green", "a", (2, 6), "abcdefgh"),
    ("red", "blue", "green", "white"),
    ((3, 1), (0, 0), "black", (3, 7)),
    ((4, 1), "p", "q", "r"),
)

WRONG_ROWS = [
    (4,), (-1,), (0, 4), (0, -1, 0), (10 ** 20,), (True,), (False,), (0, True), (None,), ("0",), ("",), ((0,),),
    ([0],), ((),), [], [0], "", "0", "012", 0, 1, True, False, None, deep_tuple(0, 8), deep_list(0, 8),
]


def random_spot(rng, row, again, quarters=4):
    return (
        tuple([rng.randrange(quarters) for _ in range(rng.randrange(row + 1))]),
        tuple([rng.randrange(quarters) for _ in range(rng.randrange(1, again + 1))]),
    )


class IsSpot(unittest.TestCase):
    def test_spots(self):
        for thing in (
            ((), (0,)), ((), (3,)), ((0,), (0,)), ((0, 1, 2, 3), (3, 2, 1, 0)), ((3,) * 60, (2,) * 24),
            ((), (0, 0, 0)), ((1,) * 500, (2,) * 300),
        ):
            self.assertIs(is_spot(thing), True, thing)

    def test_a_round_is_never_bare(self):
        self.assertIs(is_spot(((), ())), False)
        self.assertIs(is_spot(((0, 1), ())), False)

    def test_wrong_rows_and_rounds(self):
        for wrong in WRONG_ROWS:
            with self.subTest(wrong):
                self.assertIs(is_spot((wrong, (0,))), False)
                self.assertIs(is_spot(((), wrong)), False)
                self.assertIs(is_spot((wrong, wrong)), False)

    def test_what_is_no_pair(self):
        for wrong in [
            None, True, False, 0, 7, -1, "", "0 1", "ab", (), ((),), ((0,),), ((0,), (0,), (0,)), [(0,), (0,)],
            [[0], [0]], [], {}, ((), [0]), ([], (0,)), deep_tuple((0,), 8), deep_list((0,), 8), (0, 0), "01",
        ]:
            with self.subTest(wrong):
                self.assertIs(is_spot(wrong), False)

    def test_by_name(self):
        self.assertIs(is_spot(thing=((), (0,))), True)


class Plain(unittest.TestCase):
    def test_plain_ones_stay(self):
        for spot in (((), (0,)), ((), (0, 1)), ((1,), (0,)), ((0, 1, 2), (3, 0)), ((2,) * 60, (1,)), ((), (0, 0, 1))):
            self.assertEqual(plain(spot), spot)

    def test_rounds_that_repeat_themselves(self):
        self.assertEqual(plain(((), (2, 2, 2))), ((), (2,)))
        self.assertEqual(plain(((), (0, 1, 0, 1))), ((), (0, 1)))
        self.assertEqual(plain(((), (0, 1, 0))), ((), (0, 1, 0)))
        self.assertEqual(plain(((3,), (1, 2, 3) * 8)), ((), (3, 1, 2)))
        self.assertEqual(plain(((), (0, 0, 1, 0, 0, 1))), ((), (0, 0, 1)))

    def test_rows_that_end_like_the_round(self):
        self.assertEqual(plain(((0,), (0,))), ((), (0,)))
        self.assertEqual(plain(((1, 0, 0), (0,))), ((1,), (0,)))
        self.assertEqual(plain(((0, 1), (0, 1))), ((), (0, 1)))
        self.assertEqual(plain(((2, 1), (0, 1))), ((2,), (1, 0)))
        self.assertEqual(plain(((1, 0, 1), (0, 1))), ((), (1, 0)))
        self.assertEqual(plain(((3, 2, 3), (2, 3, 2, 3))), ((), (3, 2)))
        self.assertEqual(plain(((1,) * 60, (1,) * 24)), ((), (1,)))

    def test_it_is_the_same_endless_row_and_nothing_shorter_is(self):
        rng = Random(3)
        for _ in range(600):
            spot = random_spot(rng, 7, 7, 2)
            row, again = told = plain(spot)
            self.assertIs(is_spot(told), True)
            along = quarters_along(spot, 80)
            self.assertEqual(quarters_along(told, 80), along)
            for less in range(1, len(again)):
                self.assertNotEqual(along[40:40 + less * 6], along[40 + less:40 + less * 7], (spot, less))
            if row:
                self.assertNotEqual(row[-1], again[-1])

    def test_by_name(self):
        self.assertEqual(plain(spot=((0,), (0, 0))), ((), (0,)))


class ColourAt(unittest.TestCase):
    def test_a_colour_has_itself_at_each_spot(self):
        for spot in (((), (0,)), ((1, 2), (3, 0)), ((3,) * 60, (1,) * 24)):
            self.assertEqual(colour_at((), "red", spot), "red")

    def test_the_first_colour_along_it(self):
        self.assertEqual(colour_at(HOUSE, (0, 0), ((), (0,))), "red")
        self.assertEqual(colour_at(HOUSE, (0, 0), ((3, 1, 1), (2,))), "blue")
        self.assertEqual(colour_at(HOUSE, (0, 0), ((1,), (1, 0))), "blue")
        self.assertEqual(colour_at(HOUSE, (0, 0), ((2,), (3,))), "green")
        # (1, 5) shows at 2, 0 the quarters 2 and then 0 of it: (2, behind(6, 5)), quarter 0 of that.
        self.assertEqual(colour_at(HOUSE, (0, 0), ((2, 0), (0,))), "abcdefgh")

    def test_a_colour_within_the_round(self):
        house = ((("a", (1, 0), "b", "b")), ("c", "d", (0, 0), "f"))
        self.assertEqual(colour_at(house, (0, 0), ((), (1, 2))), None)
        self.assertEqual(colour_at(house, (0, 0), ((), (1, 2, 1, 2, 0))), "a")
        self.assertEqual(colour_at(house, (0, 0), ((1,), (2, 1, 1))), "d")
        self.assertEqual(colour_at(house, (0, 0), ((1,), (2, 1, 2))), "b")

    def test_bottomless_spots(self):
        self.assertIsNone(colour_at((((0, 0),) * 4,), (0, 5), ((1, 2, 3), (0, 1))))
        # What stands at 0 is turned by 1 each time, so the quarter that leads on is 0, 1, 3, 2, 0, ..
        self.assertIsNone(colour_at(HOUSE, (4, 0), ((), (0, 1, 3, 2))))
        self.assertIsNone(colour_at(HOUSE, (4, 1), ((1, 3), (2, 0, 1, 3))))
        # Turned by 3, the top right quarter stands at the top left.
        self.assertEqual(colour_at(HOUSE, (4, 0), ((), (0, 1, 3, 0))), "p")
        self.assertEqual(colour_at(HOUSE, (4, 0), ((0, 1, 3, 2) * 15, (2, 1))), "q")

    def test_a_colour_only_behind_many_rounds(self):
        # Only the eighth round leads out of a ring of 8 panes.
        ring = [("x", "x", "x", ((at + 1) % 8, 0)) for at in range(8)]
        ring[7] = ("x", "x", "x", "out")
        self.assertEqual(colour_at(tuple(ring), (0, 0), ((), (3,))), "out")
        self.assertEqual(colour_at(tuple(ring), (7, 2), ((), (0,))), "out")
        # A round of 3 quarters comes to each pane of the ring, turned by all turns, ahead of the colour.
        chain = tuple([((at + 1, 3), "x", (at + 1, 0), (at + 1, 5)) for at in range(23)]) + (("p", "q", "r", "s"),)
        for spot in (((), (3, 0, 2)), ((0, 3), (2,)), ((2,) * 22, (3, 0))):
            self.assertEqual(colour_at(chain, (0, 0), spot), colour_by_steps(chain, (0, 0), spot))

    def test_all_kinds_of_houses_by_steps(self):
        rng = Random(11)
        for house in some_houses(60, 5):
            for look in looks_of(house):
                spot = random_spot(rng, 4, 4)
                self.assertEqual(colour_at(house, look, spot), colour_by_steps(house, look, spot), (house, look, spot))

    def test_houses_of_24_panes_with_long_rows_and_rounds(self):
        rng = Random(12)
        for looks in (0.7, 0.98, 1):
            house = random_house(rng, 24, "abcdefghijkl", looks)
            for look in looks_of(house)[::7]:
                spot = random_spot(rng, 60, 24)
                self.assertEqual(colour_at(house, look, spot), colour_by_steps(house, look, spot))

    def test_the_same_endless_row_tells_the_same(self):
        rng = Random(13)
        house = random_house(rng, 6, "abc", 0.9)
        for look in looks_of(house):
            spot = random_spot(rng, 5, 5)
            self.assertEqual(colour_at(house, look, spot), colour_at(house, look, plain(spot)))

    def test_by_name(self):
        self.assertEqual(colour_at(spot=((3,), (1,)), house=HOUSE, sight=(0, 0)), "blue")


class SpotOf(unittest.TestCase):
    def test_corners_and_edges(self):
        self.assertEqual(spot_of((0, 1), (0, 1)), ((), (0,)))
        self.assertEqual(spot_of((1, 2), (0, 1)), ((1,), (0,)))
        self.assertEqual(spot_of((0, 1), (1, 2)), ((2,), (0,)))
        self.assertEqual(spot_of((1, 2), (1, 2)), ((3,), (0,)))
        self.assertEqual(spot_of((1, 4), (3, 4)), ((2, 3), (0,)))
        self.assertEqual(spot_of((1, 32), (0, 1)), ((0, 0, 0, 0, 1), (0,)))

    def test_in_the_midst(self):
        self.assertEqual(spot_of((1, 3), (0, 1)), ((), (0, 1)))
        self.assertEqual(spot_of((0, 1), (2, 3)), ((), (2, 0)))
        self.assertEqual(spot_of((1, 3), (2, 3)), ((), (2, 1)))
        self.assertEqual(spot_of((2, 3), (2, 3)), ((), (3, 0)))
        self.assertEqual(spot_of((1, 6), (0, 1)), ((0,), (0, 1)))
        # 1/7 is 001001.. and 1/3 is 0101.. in halves.
        self.assertEqual(spot_of((1, 7), (1, 3)), ((), (0, 2, 1, 2, 0, 3)))
        self.assertEqual(spot_of((1, 2), (1, 3)), ((1,), (2, 0)))

    def test_all_points_of_small_bottoms_lie_in_their_quarters(self):
        points = sorted({Fraction(top, bottom).as_integer_ratio() for bottom in range(1, 13) for top in range(bottom)})
        for x, y in product(points, points):
            self.assert_it_lies_in_all(x, y, 30)

    def test_bottoms_to_60_and_beyond(self):
        for x, y in (
            ((59, 60), (1, 59)), ((7, 53), (58, 59)), ((1, 64), (63, 64)), ((1, 61), (96, 97)), ((0, 1), (36, 37)),
        ):
            self.assert_it_lies_in_all(x, y, 200)

    def assert_it_lies_in_all(self, x, y, depth):
        told = spot_of(x, y)
        self.assertEqual(plain(told), told)
        left, top, side = Fraction(0), Fraction(0), Fraction(1)
        for quarter in quarters_along(told, depth):
            side /= 2
            left += side * (quarter in (1, 3))
            top += side * (quarter in (2, 3))
            self.assertTrue(left <= Fraction(*x) < left + side, (x, y, told))
            self.assertTrue(top <= Fraction(*y) < top + side, (x, y, told))
        self.assertEqual(point_of(told), (x, y))

    def test_by_name(self):
        self.assertEqual(spot_of(y=(1, 2), x=(0, 1)), ((2,), (0,)))


class PointOf(unittest.TestCase):
    def test_corners(self):
        self.assertEqual(point_of(((), (0,))), ((0, 1), (0, 1)))
        self.assertEqual(point_of(((), (1,))), ((1, 1), (0, 1)))
        self.assertEqual(point_of(((), (2,))), ((0, 1), (1, 1)))
        self.assertEqual(point_of(((), (3,))), ((1, 1), (1, 1)))

    def test_at_the_edges_from_either_side(self):
        self.assertEqual(point_of(((1,), (0,))), ((1, 2), (0, 1)))
        self.assertEqual(point_of(((0,), (1,))), ((1, 2), (0, 1)))
        self.assertEqual(point_of(((3,), (0,))), ((1, 2), (1, 2)))
        self.assertEqual(point_of(((0,), (3,))), ((1, 2), (1, 2)))
        self.assertEqual(point_of(((0, 1), (2,))), ((1, 4), (1, 4)))

    def test_lowest_terms(self):
        self.assertEqual(point_of(((), (2, 1))), ((1, 3), (2, 3)))
        self.assertEqual(point_of(((), (0, 1, 0, 1))), ((1, 3), (0, 1)))
        self.assertEqual(point_of(((1,), (0, 1))), ((2, 3), (0, 1)))
        self.assertEqual(point_of(((0, 2), (1, 3))), ((1, 4), (1, 3)))

    def test_sums_of_halves(self):
        rng = Random(21)
        for row, again in [random_spot(rng, 60, 24) for _ in range(80)] + [((3,) * 60, (0,) * 23 + (3,))]:
            expected = []
            for far in ((1, 3), (2, 3)):
                length = sum([Fraction(1, 2 ** (at + 1)) for at, quarter in enumerate(row) if quarter in far])
                more = sum([Fraction(1, 2 ** (at + 1)) for at, quarter in enumerate(again) if quarter in far])
                length += more / (1 - Fraction(1, 2 ** len(again))) / 2 ** len(row)
                expected.append((length.numerator, length.denominator))
            told = point_of((row, again))
            self.assertEqual(told, tuple(expected))
            self.assertEqual({type(part) for pair in told for part in pair}, {int})

    def test_plain_or_not(self):
        rng = Random(22)
        for _ in range(100):
            spot = random_spot(rng, 6, 6, 3)
            self.assertEqual(point_of(spot), point_of(plain(spot)))

    def test_by_name(self):
        self.assertEqual(point_of(spot=((1,), (0,))), ((1, 2), (0, 1)))


class Interface(unittest.TestCase):
    def test_each_is_defined_in_its_file(self):
        for function in (is_spot, plain, colour_at, spot_of, point_of):
            self.assertEqual(function.__module__, "wellpanes.spots")

    def test_turns_of_a_pane_tell_the_same_colours(self):
        house = (("a", "b", "c", "d"),)
        self.assertEqual([colour_at(house, (0, 1), ((quarter,), (0,))) for quarter in QUARTERS], list("cadb"))
        for turn in TURNS:
            told = [colour_at(house, (0, turn), ((quarter,), (0,))) for quarter in QUARTERS]
            self.assertEqual(sorted(told), list("abcd"))


if __name__ == "__main__":
    unittest.main()
