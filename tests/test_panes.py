import unittest
from itertools import product

from pictures import QUARTERS, TURNS, deep_list, deep_tuple, grid_of, house_of, looks_of, part_of_grid, turned_grid
from wellpanes.panes import beside, colours_in, is_house, is_sight, numbered_on, panes_from
from wellpanes.panes import quarter_of, sight_at, turned

PLAIN = ("red", "blue", "green", "white")
# Pane 0 looks into itself and into 1, pane 1 into 2, pane 2 nowhere, pane 3 into 0 and itself.
HOUSE = (
    ("red", (0, 3), (1, 5), "blue"),
    ("green", "a", (2, 6), "abcdefgh"),
    PLAIN,
    ((3, 1), (0, 0), "black", (3, 7)),
)

# Wrong in each house of three panes.
WRONG_SIGHTS = [
    # no colours
    "", "ninechars", "abcdefghi", "Red", "RED", "rEd", "reD", "a b", " a", "a ", "a1", "1a", "1", "-", "a-b", "a\n",
    "\u00e9", "a\u00e9", "`", "{", "None",
    # no pairs
    None, True, False, 0, 7, -1, (), (0,), (0, 0, 0), [], [0, 0], ["a"], ("a",), ("a", "b"), ("a", 0), (0, "a"),
    [(0, 0)], ((0, 0), (0, 0)),
    # no turns
    (0, 8), (0, -1), (0, True), (0, False), (0, None), (0, "0"), (0, (0,)), (0, [0]), (0, 10 ** 20),
    # no panes
    (3, 0), (4, 0), (24, 0), (-1, 0), (-3, 0), (True, 0), (False, 0), (None, 0), ("0", 0), ((0,), 0), ([0], 0),
    (10 ** 20, 0),
    # deep ones
    deep_tuple("a", 10), deep_list("a", 10), deep_tuple((0, 0), 9), deep_list((0, 0), 9),
    (deep_tuple(0, 9), 0), (0, deep_list(0, 9)),
]


class IsHouse(unittest.TestCase):
    def test_houses(self):
        right = [
            (),
            (PLAIN,),
            (("a", "z", "abcdefgh", "zzzzzzzz"),),
            (((0, 0), (0, 7), (0, 4), (0, 1)),),
            (("a", "a", "a", (1, 7)), ((0, 0), (1, 1), "b", "b")),
            HOUSE,
            house_of(24),
            house_of(40),
        ]
        for thing in right:
            with self.subTest(thing):
                self.assertIs(is_house(thing), True)

    def test_what_is_no_tuple_of_tuples_is_none(self):
        wrong = [
            None, True, False, 0, 1, -1, "", "a", "abcd", [], [PLAIN], [list(PLAIN)], (list(PLAIN),),
            (PLAIN, list(PLAIN)), ("abcd",), (None,), (True,), (4,), PLAIN, ((PLAIN,),),
        ]
        for thing in wrong:
            with self.subTest(thing):
                self.assertIs(is_house(thing), False)

    def test_a_pane_has_four_quarters(self):
        for quarters in ((), ("a",), ("a", "b", "c"), ("a", "b", "c", "d", "e"), ("a",) * 8):
            with self.subTest(quarters):
                self.assertIs(is_house((quarters,)), False)
                self.assertIs(is_house((PLAIN, quarters)), False)
                self.assertIs(is_house((quarters, PLAIN)), False)

    def test_one_wrong_quarter_is_enough(self):
        for wrong, quarter in product(WRONG_SIGHTS, QUARTERS):
            pane = list(PLAIN)
            pane[quarter] = wrong
            with self.subTest(wrong, quarter=quarter):
                self.assertIs(is_house((PLAIN, tuple(pane), PLAIN)), False)

    def test_looks_are_into_panes_that_are_there(self):
        self.assertIs(is_house((("a", "b", "c", (0, 0)),)), True)
        self.assertIs(is_house((("a", "b", "c", (1, 0)),)), False)
        self.assertIs(is_house((("a", "b", "c", (1, 0)), PLAIN)), True)
        self.assertIs(is_house((("a", "b", "c", (-1, 0)), PLAIN)), False)
        self.assertIs(is_house(house_of(24)[:23]), False)

    def test_things_ten_deep(self):
        for inner in ((), PLAIN, "a", 0, None):
            for depth in range(2, 11):
                self.assertIs(is_house(deep_tuple(inner, depth)), False)
                self.assertIs(is_house(deep_list(inner, depth)), False)

    def test_by_name(self):
        self.assertIs(is_house(thing=HOUSE), True)
        self.assertIs(is_house(thing=PLAIN), False)


class IsSight(unittest.TestCase):
    def setUp(self):
        self.house = (PLAIN, PLAIN, PLAIN)

    def test_colours(self):
        for colour in ("a", "z", "m", "red", "abcdefgh", "zzzzzzzz"):
            self.assertIs(is_sight(self.house, colour), True, colour)
            self.assertIs(is_sight((), colour), True, colour)

    def test_looks(self):
        for look in looks_of(self.house):
            self.assertIs(is_sight(self.house, look), True, look)

    def test_nothing_else_is_one(self):
        for thing in WRONG_SIGHTS:
            with self.subTest(thing):
                self.assertIs(is_sight(self.house, thing), False)

    def test_of_no_panes_there_are_no_looks(self):
        self.assertIs(is_sight((), (0, 0)), False)
        for thing in WRONG_SIGHTS:
            self.assertIs(is_sight((), thing), False, thing)

    def test_the_last_pane(self):
        for many in (1, 2, 24, 30):
            house = (PLAIN,) * many
            self.assertIs(is_sight(house, (many - 1, 7)), True)
            self.assertIs(is_sight(house, (many, 7)), False)

    def test_by_name(self):
        self.assertIs(is_sight(house=self.house, thing=(2, 0)), True)
        self.assertIs(is_sight(thing=(3, 0), house=self.house), False)


class Turned(unittest.TestCase):
    def test_a_colour_is_itself(self):
        for turn in TURNS:
            self.assertEqual(turned("a", turn), "a")
            self.assertEqual(turned("abcdefgh", turn), "abcdefgh")

    def test_looks(self):
        self.assertEqual(turned((5, 0), 3), (5, 3))
        self.assertEqual(turned((5, 3), 0), (5, 3))
        self.assertEqual(turned((0, 3), 1), (0, 0))
        self.assertEqual(turned((23, 1), 4), (23, 7))
        self.assertEqual(turned((23, 4), 1), (23, 5))
        self.assertIs(type(turned((5, 0), 3)), tuple)

    def test_the_picture_is_turned(self):
        house = house_of(5)
        for look, turn in product(looks_of(house), TURNS):
            told = turned(look, turn)
            self.assertEqual(told[0], look[0])
            self.assertEqual(grid_of(house, told, 3), turned_grid(grid_of(house, look, 3), turn), (look, turn))

    def test_by_name(self):
        self.assertEqual(turned(sight=(1, 1), turn=4), (1, 7))


class QuarterOf(unittest.TestCase):
    def test_a_colour_is_its_own_quarters(self):
        for quarter in QUARTERS:
            self.assertEqual(quarter_of((), "a", quarter), "a")
            self.assertEqual(quarter_of(HOUSE, "abcdefgh", quarter), "abcdefgh")

    def test_quarters_as_they_stand(self):
        for pane, quarter in product(range(4), QUARTERS):
            self.assertEqual(quarter_of(HOUSE, (pane, 0), quarter), HOUSE[pane][quarter])

    def test_quarters_by_turns(self):
        self.assertEqual([quarter_of(HOUSE, (0, 1), q) for q in QUARTERS], [(1, 6), "red", "blue", (0, 0)])
        self.assertEqual([quarter_of(HOUSE, (0, 4), q) for q in QUARTERS], [(0, 5), "red", "blue", (1, 3)])
        self.assertEqual([quarter_of(HOUSE, (2, 2), q) for q in QUARTERS], ["white", "green", "blue", "red"])

    def test_all_turns_and_quarters_are_parts_of_the_picture(self):
        house = house_of(5)
        for look, quarter in product(looks_of(house), QUARTERS):
            whole = grid_of(house, look, 4)
            told = quarter_of(house, look, quarter)
            self.assertIs(is_sight(house, told), True)
            self.assertEqual(grid_of(house, told, 3), part_of_grid(whole, quarter), (look, quarter))

    def test_by_name(self):
        self.assertEqual(quarter_of(house=HOUSE, sight=(0, 0), quarter=2), (1, 5))


class SightAt(unittest.TestCase):
    def test_the_bare_row(self):
        self.assertEqual(sight_at((), "red", ()), "red")
        for look in looks_of(HOUSE):
            self.assertEqual(sight_at(HOUSE, look, ()), look)

    def test_one_quarter(self):
        for look, quarter in product(looks_of(HOUSE), QUARTERS):
            self.assertEqual(sight_at(HOUSE, look, (quarter,)), quarter_of(HOUSE, look, quarter))

    def test_some_rows(self):
        self.assertEqual(sight_at(HOUSE, (0, 0), (1, 0)), (0, 2))
        self.assertEqual(sight_at(HOUSE, (0, 0), (1, 1)), "blue")
        self.assertEqual(sight_at(HOUSE, (0, 0), (2, 3)), "green")
        self.assertEqual(sight_at(HOUSE, (0, 0), (2, 0, 0, 0)), "abcdefgh")
        self.assertEqual(sight_at(HOUSE, (1, 0), (2, 0)), "green")

    def test_a_colour_stays(self):
        self.assertEqual(sight_at((), "red", (0, 1, 2, 3) * 15), "red")
        self.assertEqual(sight_at(HOUSE, (0, 0), (0,) + (3,) * 59), "red")

    def test_rows_lead_to_the_cells_of_the_picture(self):
        house = house_of(4)
        for look, row in product(looks_of(house), product(QUARTERS, repeat=3)):
            grid = grid_of(house, look, 5)
            for quarter in row:
                grid = part_of_grid(grid, quarter)
            self.assertEqual(grid_of(house, sight_at(house, look, row), 2), grid, (look, row))

    def test_long_rows(self):
        house = (((0, 1), "a", "b", (0, 4)),)
        # What is seen there is turned by 1 over and over, so its look stands at 0, 1, 3, 2, 0, ..
        self.assertEqual(sight_at(house, (0, 0), (0, 1, 3, 2) * 15), (0, 0))
        self.assertEqual(sight_at(house, (0, 0), (0, 1, 3, 2) * 15 + (0,)), (0, 1))
        self.assertEqual(sight_at(house, (0, 0), (0, 1, 3, 2) * 50), (0, 0))
        self.assertEqual(sight_at(house, (0, 0), (0, 1, 3, 2) * 14 + (0, 1, 3, 0)), "a")

    def test_a_row_over_24_panes(self):
        house = tuple([("a", "b", ((at + 1) % 24, 0), "c") for at in range(24)])
        self.assertEqual(sight_at(house, (0, 0), (2,) * 23), (23, 0))
        self.assertEqual(sight_at(house, (0, 0), (2,) * 60), (12, 0))
        self.assertEqual(sight_at(house, (20, 0), (2,) * 59 + (3,)), "c")

    def test_by_name(self):
        self.assertEqual(sight_at(house=HOUSE, sight=(0, 0), row=(1, 0)), (0, 2))


class PanesFrom(unittest.TestCase):
    def test_from_none(self):
        self.assertEqual(panes_from((), []), [])
        self.assertEqual(panes_from(HOUSE, []), [])
        self.assertEqual(panes_from(HOUSE, ()), [])

    def test_from_colours_alone(self):
        self.assertEqual(panes_from((), ["red"]), [])
        self.assertEqual(panes_from(HOUSE, ["red", "blue"]), [])

    def test_each_with_its_own_pane(self):
        self.assertEqual(panes_from(HOUSE, [(0, 0)]), [0, 1, 2])
        self.assertEqual(panes_from(HOUSE, [(1, 0)]), [1, 2])
        self.assertEqual(panes_from(HOUSE, [(2, 0)]), [2])
        self.assertEqual(panes_from(HOUSE, [(3, 0)]), [0, 1, 2, 3])

    def test_turns_lead_to_the_same(self):
        for turn in TURNS:
            self.assertEqual(panes_from(HOUSE, [(1, turn)]), [1, 2])

    def test_from_several(self):
        house = (((1, 0),) * 4, PLAIN, ((4, 2), "a", "a", "a"), PLAIN, ((2, 0), "a", "a", "a"))
        self.assertEqual(panes_from(house, [(4, 0), "red", (0, 5), (4, 1)]), [0, 1, 2, 4])
        self.assertEqual(panes_from(house, ((3, 0), (1, 0))), [1, 3])

    def test_each_quarter_counts(self):
        for quarter in QUARTERS:
            pane = list(PLAIN)
            pane[quarter] = (1, 0)
            self.assertEqual(panes_from((tuple(pane), PLAIN), [(0, 0)]), [0, 1])

    def test_houses_of_24_panes_and_more(self):
        for many in (24, 300):
            self.assertEqual(panes_from(house_of(many), [(many - 1, 0)]), list(range(many)))
            chain = tuple([("a", "b", (at - 1, 3), "c") for at in range(1, many)])
            self.assertEqual(panes_from((PLAIN,) + chain, [(many // 2, 0)]), list(range(many // 2 + 1)))

    def test_what_is_told_is_the_askers_own(self):
        told = panes_from(HOUSE, [(1, 0)])
        self.assertIs(type(told), list)
        told.append("mine")
        self.assertEqual(panes_from(HOUSE, [(1, 0)]), [1, 2])

    def test_nothing_handed_in_is_changed(self):
        sights = [(3, 0), "red"]
        panes_from(HOUSE, sights)
        self.assertEqual(sights, [(3, 0), "red"])

    def test_by_name(self):
        self.assertEqual(panes_from(house=HOUSE, sights=[(2, 0)]), [2])


class Beside(unittest.TestCase):
    def test_no_panes(self):
        self.assertEqual(beside((), ()), ())
        self.assertEqual(beside(HOUSE, ()), HOUSE)
        self.assertEqual(beside((), HOUSE), HOUSE)

    def test_looks_of_the_other_are_numbered_on(self):
        told = beside((PLAIN, ((0, 1), (1, 0), "a", "b")), (((0, 1), (1, 6), "a", "b"), PLAIN))
        self.assertEqual(told, (PLAIN, ((0, 1), (1, 0), "a", "b"), ((2, 1), (3, 6), "a", "b"), PLAIN))

    def test_the_pictures_are_as_they_were(self):
        one, other = house_of(3), house_of(4)
        told = beside(one, other)
        self.assertIs(is_house(told), True)
        self.assertEqual(len(told), 7)
        for look in looks_of(one):
            self.assertEqual(grid_of(told, look, 4), grid_of(one, look, 4))
        for look in looks_of(other):
            self.assertEqual(grid_of(told, numbered_on(look, 3), 4), grid_of(other, look, 4))

    def test_houses_of_24_panes(self):
        house = house_of(24)
        told = beside(house, house)
        self.assertIs(is_house(told), True)
        self.assertEqual(told[:24], house)
        self.assertEqual(panes_from(told, [(24, 0)]), list(range(24, 48)))

    def test_by_name(self):
        self.assertEqual(beside(other=(((0, 0), "a", "a", "a"),), house=(PLAIN,)), (PLAIN, ((1, 0), "a", "a", "a")))


class NumberedOn(unittest.TestCase):
    def test_a_colour_is_itself(self):
        self.assertEqual(numbered_on("a", 0), "a")
        self.assertEqual(numbered_on("abcdefgh", 24), "abcdefgh")

    def test_looks(self):
        self.assertEqual(numbered_on((0, 0), 0), (0, 0))
        for turn in TURNS:
            self.assertEqual(numbered_on((3, turn), 4), (7, turn))
        self.assertEqual(numbered_on((23, 7), 24), (47, 7))
        self.assertIs(type(numbered_on((3, 1), 4)), tuple)

    def test_by_name(self):
        self.assertEqual(numbered_on(sight=(1, 2), many=5), (6, 2))


class ColoursIn(unittest.TestCase):
    def test_from_none(self):
        self.assertEqual(colours_in((), []), [])
        self.assertEqual(colours_in(HOUSE, []), [])

    def test_from_colours(self):
        self.assertEqual(colours_in((), ("red",)), ["red"])
        self.assertEqual(colours_in(HOUSE, ["z", "a", "z", "aa", "abcdefgh"]), ["a", "aa", "abcdefgh", "z"])

    def test_from_looks(self):
        self.assertEqual(colours_in(HOUSE, [(2, 3)]), ["blue", "green", "red", "white"])
        self.assertEqual(colours_in(HOUSE, [(1, 0)]), ["a", "abcdefgh", "blue", "green", "red", "white"])
        self.assertEqual(colours_in(HOUSE, [(0, 0)]), ["a", "abcdefgh", "blue", "green", "red", "white"])
        self.assertEqual(
            colours_in(HOUSE, [(3, 0)]), ["a", "abcdefgh", "black", "blue", "green", "red", "white"])

    def test_from_both(self):
        self.assertEqual(colours_in(HOUSE, ["zebra", (2, 0), "red"]), ["blue", "green", "red", "white", "zebra"])

    def test_where_no_colour_is_come_to(self):
        self.assertEqual(colours_in((((0, 0), (0, 1), (1, 2), (0, 3)), ((0, 0),) * 4, PLAIN), [(0, 0), (1, 1)]), [])

    def test_a_house_of_24_panes(self):
        letters = "abcdefghijkl"
        told = colours_in(house_of(24), [(11, 6)])
        self.assertEqual(told, sorted(list(letters) + [letter * 8 for letter in letters]))

    def test_what_is_told_is_the_askers_own(self):
        told = colours_in(HOUSE, ["red"])
        self.assertIs(type(told), list)
        told.append("mine")
        self.assertEqual(colours_in(HOUSE, ["red"]), ["red"])

    def test_nothing_handed_in_is_changed(self):
        sights = ["red", (2, 0)]
        told = colours_in(HOUSE, sights)
        self.assertEqual(sights, ["red", (2, 0)])
        self.assertIsNot(told, sights)

    def test_by_name(self):
        self.assertEqual(colours_in(sights=["b", "a"], house=()), ["a", "b"])


class Interface(unittest.TestCase):
    def test_each_is_defined_in_its_file(self):
        told = (
            is_house, is_sight, turned, quarter_of, sight_at, panes_from, beside, numbered_on, colours_in,
        )
        for function in told:
            self.assertEqual(function.__module__, "wellpanes.panes")


if __name__ == "__main__":
    unittest.main()
