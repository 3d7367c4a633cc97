import unittest
from itertools import product
from random import Random

from pictures import QUARTERS, TURNS, colour_by_steps, least_row, looks_of, made_otherwise, random_house, rows_to
from pictures import sights_of, some_houses
from wellpanes.alike import alike, pairing, parted, spot_with, whole_of
from wellpanes.panes import beside, numbered_on, sight_at, turned
from wellpanes.turns import back, shown

# 0 is all red, so are 1 and 2 behind their looks; 3 is red but at its last corner, where it never ends;
# 4 shows at its first quarter itself, turned by 1; 5 is that again, turned and otherwise made; 6 has no colour.
HOUSE = (
    ("red", "red", "red", "red"),
    ((0, 3), "red", (0, 6), (0, 0)),
    ((1, 4), (0, 1), "red", (1, 2)),
    ("red", (1, 1), "red", (3, 0)),
    ((4, 1), "blue", (2, 0), "white"),
    ("white", "blue", (0, 2), "red"),
    ((6, 3), (7, 1), (7, 0), (6, 5)),
    ((7, 0), (6, 2), (6, 1), (7, 7)),
)


def two_rings(one, other):
    """Two rings of panes and one that never ends, in which just the last panes of both rings part them.

    Each further quarter 0 leads on in both; at their quarter 1 the last ones have colours, all others none.
    """
    void = one + other
    panes = [(((at + 1) % one, 0), (void, 0), "a", "b") for at in range(one)]
    panes.extend([((one + (at + 1) % other, 0), (void, 0), "a", "b") for at in range(other)])
    panes[one - 1] = ((0, 0), "p", "a", "b")
    panes[void - 1] = ((one, 0), "q", "a", "b")
    return tuple(panes) + (((void, 0), (void, 1), (void, 2), (void, 3)),)


class Alike(unittest.TestCase):
    def test_colours(self):
        self.assertIs(alike((), "red", "red"), True)
        self.assertIs(alike((), "red", "blue"), False)
        self.assertIs(alike(HOUSE, "white", "white"), True)

    def test_a_colour_and_pictures_hidden_behind_looks(self):
        for pane, turn in product((0, 1, 2), TURNS):
            self.assertIs(alike(HOUSE, (pane, turn), "red"), True)
            self.assertIs(alike(HOUSE, "red", (pane, turn)), True)
            self.assertIs(alike(HOUSE, "blue", (pane, turn)), False)
            self.assertIs(alike(HOUSE, (pane, turn), "blue"), False)
            self.assertIs(alike(HOUSE, (pane, turn), (3 - pane - 1, back(turn))), True)

    def test_one_spot_without_a_colour_is_enough(self):
        for sight in ("red", (0, 0), (1, 5), (2, 0)):
            self.assertIs(alike(HOUSE, (3, 0), sight), False)
            self.assertIs(alike(HOUSE, sight, (3, 0)), False)
        self.assertIs(alike(HOUSE, (3, 0), (3, 7)), True)
        self.assertIs(alike(HOUSE, (3, 0), (3, 1)), False)

    def test_pictures_without_a_colour(self):
        for turn, other in product(TURNS, TURNS):
            self.assertIs(alike(HOUSE, (6, turn), (7, other)), True)
        self.assertIs(alike(HOUSE, (6, 0), "red"), False)
        self.assertIs(alike(HOUSE, (6, 0), (3, 0)), False)

    def test_within_itself_by_a_turn(self):
        house = (((0, 1), "a", "b", "c"), ((0, 1), "a", "b", "c"), ((0, 2), "a", "b", "c"), ((2, 1), "a", "b", "c"))
        self.assertIs(alike(house, (0, 0), (1, 0)), True)
        self.assertIs(alike(house, (0, 3), (1, 3)), True)
        self.assertIs(alike(house, (0, 3), (1, 1)), False)
        self.assertIs(alike(house, (0, 0), (2, 0)), False)
        self.assertIs(alike(house, (2, 0), (3, 0)), False)

    def test_a_picture_and_its_turns(self):
        house = (("a", "b", "c", "d"), ("a", "a", "b", "b"), ("a", "b", "b", "a"))
        self.assertEqual([t for t in TURNS if alike(house, (0, t), (0, 0))], [0])
        self.assertEqual([t for t in TURNS if alike(house, (1, 0), (1, t))], [0, 4])
        # Turned by 2 it's itself, and flipped over either corner line.
        self.assertEqual([t for t in TURNS if alike(house, (2, t), (2, 0))], [0, 2, 5, 7])

    def test_two_rings_that_meet_behind_many_quarters(self):
        house = two_rings(10, 13)
        self.assertIs(alike(house, (0, 0), (10, 0)), False)
        self.assertIs(alike(house, (0, 0), (0, 0)), True)

    def test_rings_with_a_common_length(self):
        # 59 is 9 of 10 and 11 of 12; from the next one on the last panes never meet, but parts them what meets none.
        house = two_rings(10, 12)
        self.assertIs(alike(house, (0, 0), (10, 0)), False)
        self.assertIs(alike(house, (0, 0), (11, 0)), False)

    def test_rings_of_unlike_lengths_that_are_alike(self):
        house = tuple(
            [(((at + 1) % 10, 1), "a", "b", "c") for at in range(10)]
            + [((10 + (at + 1) % 14, 1), "a", "b", "c") for at in range(14)])
        self.assertIs(alike(house, (0, 0), (10, 0)), True)
        self.assertIs(alike(house, (3, 5), (23, 5)), True)
        self.assertIs(alike(house, (3, 5), (23, 4)), False)
        changed = house[:23] + ((house[23][:3] + ("d",)),)
        self.assertIs(alike(changed, (0, 0), (10, 0)), False)
        self.assertIs(alike(changed, (0, 0), (9, 0)), True)
        self.assertIs(alike(changed, (10, 0), (11, 0)), False)

    def test_pictures_made_otherwise(self):
        rng = Random(31)
        for looks in (0.3, 0.7, 0.9, 1):
            house = random_house(rng, 12, "abcdefghijkl", looks)
            other, told_there = made_otherwise(rng, house)
            both = beside(house, other)
            for look in looks_of(house):
                self.assertIs(alike(both, look, numbered_on(told_there(look), 12)), True)
                self.assertIs(alike(both, numbered_on(told_there(look), 12), look), True)

    def test_by_name(self):
        self.assertIs(alike(other="red", one=(2, 0), house=HOUSE), True)


class WholeOf(unittest.TestCase):
    def test_colours(self):
        self.assertEqual(whole_of((), "red"), "red")
        self.assertEqual(whole_of(HOUSE, "zz"), "zz")

    def test_looks(self):
        for turn in TURNS:
            self.assertEqual(whole_of(HOUSE, (0, turn)), "red")
            self.assertEqual(whole_of(HOUSE, (1, turn)), "red")
            self.assertEqual(whole_of(HOUSE, (2, turn)), "red")
            for pane in (3, 4, 5, 6, 7):
                self.assertIsNone(whole_of(HOUSE, (pane, turn)))

    def test_one_other_quarter_is_enough(self):
        for quarter in QUARTERS:
            pane = ["red"] * 4
            pane[quarter] = "blue"
            self.assertIsNone(whole_of((tuple(pane),), (0, 0)))
            pane[quarter] = (1, 0)
            self.assertIsNone(whole_of((tuple(pane), ("blue",) * 4), (0, 0)))
            self.assertEqual(whole_of((tuple(pane), ("red",) * 4), (0, 0)), "red")
            pane[quarter] = (0, 0)
            self.assertIsNone(whole_of((tuple(pane),), (0, 0)))

    def test_a_chain_of_24_panes(self):
        chain = tuple([((at + 1, at % 8), "a", "a", (at + 1, 0)) for at in range(23)]) + (("a", "a", "a", "a"),)
        for pane in range(24):
            self.assertEqual(whole_of(chain, (pane, 0)), "a")
        other = chain[:23] + (("a", "a", "a", "b"),)
        for pane in range(24):
            self.assertIsNone(whole_of(other, (pane, 0)))
        back_again = chain[:23] + (("a", "a", "a", (0, 0)),)
        for pane in range(24):
            self.assertIsNone(whole_of(back_again, (pane, 0)))

    def test_by_name(self):
        self.assertEqual(whole_of(sight=(2, 1), house=HOUSE), "red")


class SpotWith(unittest.TestCase):
    def test_of_colours(self):
        self.assertEqual(spot_with((), "red", "red"), ((), (0,)))
        self.assertIsNone(spot_with((), "red", "blue"))
        self.assertIsNone(spot_with((), "red", None))

    def test_the_shortest_and_least_row(self):
        self.assertEqual(spot_with(HOUSE, (0, 0), "red"), ((0,), (0,)))
        self.assertEqual(spot_with(HOUSE, (1, 0), "red"), ((1,), (0,)))
        self.assertEqual(spot_with(HOUSE, (2, 0), "red"), ((2,), (0,)))
        self.assertEqual(spot_with(HOUSE, (4, 0), "blue"), ((1,), (0,)))
        self.assertEqual(spot_with(HOUSE, (4, 0), "red"), ((2, 2), (0,)))
        self.assertEqual(spot_with(HOUSE, (4, 0), "white"), ((3,), (0,)))
        # Plain it would be ((), (0,)).
        self.assertEqual(spot_with((("a", "b", "b", "b"),), (0, 0), "a"), ((0,), (0,)))

    def test_what_is_at_no_spot(self):
        self.assertIsNone(spot_with(HOUSE, (4, 0), "black"))
        self.assertIsNone(spot_with(HOUSE, (6, 0), "red"))
        self.assertIsNone(spot_with(HOUSE, (2, 3), None))
        self.assertIsNone(spot_with(HOUSE, (5, 3), None))
        self.assertIsNone(spot_with(HOUSE, "red", "white"))

    def test_spots_without_a_colour(self):
        for look in [(3, turn) for turn in TURNS] + [(4, turn) for turn in TURNS] + [(6, 0), (7, 4)]:
            spot = spot_with(HOUSE, look, None)
            self.assertIsNone(colour_by_steps(HOUSE, look, spot))

    def test_far_ones(self):
        chain = tuple([("a", (at + 1, 0), "b", "a") for at in range(23)]) + (("a", "b", "c", (23, 0)),)
        self.assertEqual(spot_with(chain, (0, 0), "c"), ((1,) * 23 + (2,), (0,)))
        row, again = spot_with(chain, (0, 0), None)
        self.assertEqual((row + again * 60)[:60], (1,) * 23 + (3,) * 37)

    def test_all_kinds_of_houses(self):
        for house in some_houses(60, 6):
            for sight, what in product(sights_of(house)[::3], ("a", "b", "c", "zz", None)):
                self.assert_right(house, sight, what)

    def assert_right(self, house, sight, what):
        told = spot_with(house, sight, what)
        if told is not None:
            self.assertEqual(colour_by_steps(house, sight, told), what, (house, sight, what))
        if what is not None:
            row = least_row(3, lambda row: sight_at(house, sight, row) == what)
            if row is not None:
                self.assertEqual(told, (row, (0,)))
            elif told is not None:
                self.assertTrue(len(told[0]) > 3)
        elif told is None:
            # In a house of 4 panes what ever ends does so behind 4 quarters.
            self.assertTrue(all([isinstance(sight_at(house, sight, row), str) for row in rows_to(4) if len(row) == 4]))

    def test_by_name(self):
        self.assertEqual(spot_with(what="white", house=HOUSE, sight=(4, 0)), ((3,), (0,)))


class Parted(unittest.TestCase):
    def test_colours(self):
        self.assertIsNone(parted((), "red", "red"))
        self.assertEqual(parted((), "red", "blue"), ((), (0,)))

    def test_a_colour_and_a_look(self):
        self.assertEqual(parted(HOUSE, "blue", (4, 0)), ((3,), (0,)))
        self.assertEqual(parted(HOUSE, (4, 0), "white"), ((1,), (0,)))
        self.assertEqual(parted(HOUSE, (2, 0), "blue"), ((2,), (0,)))
        self.assertIsNone(parted(HOUSE, "red", (2, 7)))

    def test_the_shortest_and_then_the_least_row(self):
        house = (("a", "b", "c", "d"), ("a", "b", "d", "c"), ((0, 0), "b", "c", "d"), ((1, 0), "b", "c", "d"))
        self.assertEqual(parted(house, (0, 0), (1, 0)), ((2,), (0,)))
        self.assertEqual(parted(house, (2, 0), (3, 0)), ((0, 2), (0,)))
        self.assertEqual(parted(house, (0, 0), (2, 0)), ((0, 1), (0,)))
        self.assertEqual(parted(house, (0, 0), (0, 4)), ((0,), (0,)))
        self.assertEqual(parted(house, (0, 0), "b"), ((0,), (0,)))

    def test_where_no_row_leads_to_unlike_colours(self):
        for one, other in (
            ((3, 0), "red"), ("red", (3, 4)), ((3, 0), (3, 1)), ((6, 0), "red"), ((6, 1), (3, 0)), ((2, 0), (3, 3)),
            ((0, 0), (6, 5)),
        ):
            spot = parted(HOUSE, one, other)
            told = [colour_by_steps(HOUSE, one, spot), colour_by_steps(HOUSE, other, spot)]
            self.assertEqual(sorted(told, key=str), [None, "red"])

    def test_the_only_spot_that_parts_them(self):
        for one, other in (((3, 0), "red"), ("red", (3, 0)), ((2, 5), (3, 0))):
            row, again = parted(HOUSE, one, other)
            self.assertEqual(set(row + again), {3})

    def test_unlike_colours_go_ahead_of_a_shorter_way_to_none(self):
        house = (((1, 0), "a", "a", (2, 0)), ((1, 0),) * 4, ("a", "a", "a", "b"), ("a", "a", "a", (2, 4)))
        self.assertEqual(parted(house, (0, 0), "a"), ((3, 3), (0,)))
        self.assertEqual(parted(house, (0, 0), (3, 0)), ((3, 2), (0,)))

    def test_two_rings_that_meet_behind_many_quarters(self):
        # The rows that part them are of 129 quarters 0 and one 1, as 129 is 9 of 10 and 12 of 13.
        house = two_rings(10, 13)
        self.assertEqual(len(house), 24)
        self.assertEqual(parted(house, (0, 0), (10, 0)), ((0,) * 129 + (1,), (0,)))
        self.assertEqual(parted(house, (10, 0), (0, 0)), ((0,) * 129 + (1,), (0,)))
        self.assertEqual(parted(house, (0, 4), (10, 4)), ((1,) * 129 + (0,), (0,)))
        self.assertEqual(parted(house, (0, 0), (11, 0)), ((0,) * 89 + (1,), (0,)))

    def test_rings_that_never_meet(self):
        # With a common length, what has a colour stands across what never ends, and never across unlike colours.
        house = two_rings(10, 12)
        self.assertEqual(parted(house, (0, 0), (10, 0)), ((0,) * 59 + (1,), (0,)))
        spot = parted(house, (0, 0), (11, 0))
        told = [colour_by_steps(house, look, spot) for look in ((0, 0), (11, 0))]
        self.assertEqual(told.count(None), 1)

    def test_all_kinds_of_houses_have_one_paper_for_each_two(self):
        rng = Random(32)
        unlike = 0
        for house in some_houses(400, 7):
            sights = sights_of(house)
            one, other = rng.choice(sights), rng.choice(sights)
            spot, pairs = parted(house, one, other), pairing(house, one, other)
            self.assertIs(alike(house, one, other), spot is None)
            self.assertIs(pairs is None, spot is not None)
            if spot is None:
                assert_pairing(self, house, one, other, pairs)
            else:
                unlike += 1
                self.assert_parts(house, one, other, spot)
        self.assertTrue(100 < unlike < 300, unlike)

    def assert_parts(self, house, one, other, spot):
        told = colour_by_steps(house, one, spot), colour_by_steps(house, other, spot)
        self.assertNotEqual(*told)

        def unlike(row):
            colours = [sight_at(house, sight, row) for sight in (one, other)]
            return isinstance(colours[0], str) and isinstance(colours[1], str) and colours[0] != colours[1]
        row = least_row(3, unlike)
        if row is not None:
            self.assertEqual(spot, (row, (0,)))
        elif None not in told:
            self.assertTrue(len(spot[0]) > 3 and unlike(spot[0]) and spot[1] == (0,))

    def test_houses_of_24_panes(self):
        rng = Random(33)
        for looks, colours in ((0.5, "abcdefghijkl"), (0.9, "ab"), (0.98, "a")):
            house = random_house(rng, 24, colours, looks)
            for _ in range(12):
                one, other = rng.choice(looks_of(house)), rng.choice(looks_of(house))
                spot, pairs = parted(house, one, other), pairing(house, one, other)
                if spot is None:
                    assert_pairing(self, house, one, other, pairs)
                else:
                    self.assertIsNone(pairs)
                    self.assert_parts(house, one, other, spot)

    def test_by_name(self):
        self.assertEqual(parted(other=(4, 0), house=HOUSE, one="blue"), ((3,), (0,)))


def assert_pairing(case, house, one, other, told):
    """Asserts each clause of what a pairing is, as the document has them."""
    case.assertIs(type(told), list)
    numbers = {}
    for triple in told:
        case.assertIs(type(triple), tuple)
        first, second, number = triple
        case.assertIs(type(number), int)
        case.assertGreaterEqual(number, 0)
        case.assertNotIn((first, second), numbers)
        numbers[(first, second)] = number
    case.assertIn((one, other), numbers)
    for first, second in numbers:
        if isinstance(first, str) and isinstance(second, str):
            case.assertEqual(first, second)
            continue
        for quarter in QUARTERS:
            parts = []
            for sight in (first, second):
                parts.append(sight if isinstance(sight, str) else turned(house[sight[0]][shown(sight[1], quarter)], sight[1]))
            case.assertIn(tuple(parts), numbers)
            if isinstance(first, str) or isinstance(second, str):
                case.assertLess(numbers[tuple(parts)], numbers[(first, second)])


class Pairing(unittest.TestCase):
    def test_colours(self):
        told = pairing((), "red", "red")
        assert_pairing(self, (), "red", "red", told)
        self.assertIsNone(pairing((), "red", "blue"))

    def test_numbers_fall_where_a_colour_is_paired_with_a_look(self):
        for one, other in (((2, 0), "red"), ("red", (2, 3)), ("red", (0, 0)), ((1, 0), "red"), ((2, 1), (1, 0))):
            assert_pairing(self, HOUSE, one, other, pairing(HOUSE, one, other))

    def test_looks_that_come_back(self):
        for one, other in (((6, 0), (7, 3)), ((3, 0), (3, 7)), ((4, 5), (4, 5)), ((0, 0), (2, 0))):
            assert_pairing(self, HOUSE, one, other, pairing(HOUSE, one, other))

    def test_none_where_they_are_not_alike(self):
        for one, other in (((3, 0), "red"), ((3, 0), (3, 1)), ((6, 0), "red"), ((4, 0), (5, 0)), ("blue", (0, 0))):
            self.assertIsNone(pairing(HOUSE, one, other))
            self.assertIsNone(pairing(HOUSE, other, one))

    def test_rings_and_copies_of_24_panes(self):
        rng = Random(34)
        house = random_house(rng, 8, "abc", 0.8)
        other, told_there = made_otherwise(rng, house)
        both = beside(house, other)
        for look in looks_of(house)[::5]:
            there = numbered_on(told_there(look), 8)
            assert_pairing(self, both, look, there, pairing(both, look, there))

    def test_what_is_told_is_the_askers_own(self):
        told = pairing(HOUSE, (2, 0), "red")
        again = pairing(HOUSE, (2, 0), "red")
        self.assertEqual(told, again)
        told.clear()
        self.assertEqual(pairing(HOUSE, (2, 0), "red"), again)

    def test_by_name(self):
        assert_pairing(self, HOUSE, (2, 0), "red", pairing(one=(2, 0), other="red", house=HOUSE))


class Interface(unittest.TestCase):
    def test_each_is_defined_in_its_file(self):
        for function in (alike, whole_of, spot_with, parted, pairing):
            self.assertEqual(function.__module__, "wellpanes.alike")


if __name__ == "__main__":
    unittest.main()
