import unittest
from itertools import product
from random import Random

from pictures import QUARTERS, TURNS, looks_of, random_house, some_houses, turned_grid
from wellpanes.alike import alike
from wellpanes.cells import cell_row, counted, drawn
from wellpanes.panes import colours_in, sight_at

# 0 leads on within itself, 1 is all red behind looks, 2 has no colour, 3 leads to 1 and ends nowhere in a corner.
HOUSE = (
    ("a", (0, 0), "b", (1, 2)),
    ((4, 1), "red", "red", (4, 5)),
    ((2, 1), (2, 0), (2, 7), (2, 0)),
    ((1, 3), "white", (2, 0), (3, 0)),
    ("red", "red", "red", "red"),
)


class CellRow(unittest.TestCase):
    def test_depth_0(self):
        self.assertEqual(cell_row(0, 0, 0), ())

    def test_depth_1(self):
        self.assertEqual([cell_row(1, across, down) for down in (0, 1) for across in (0, 1)], [(0,), (1,), (2,), (3,)])

    def test_deeper(self):
        self.assertEqual(cell_row(2, 2, 1), (1, 2))
        self.assertEqual(cell_row(3, 5, 0), (1, 0, 1))
        self.assertEqual(cell_row(3, 0, 6), (2, 2, 0))
        self.assertEqual(cell_row(3, 7, 7), (3, 3, 3))
        self.assertEqual(cell_row(5, 1, 16), (2, 0, 0, 0, 1))

    def test_all_cells_from_the_left_and_the_top(self):
        for depth in range(5):
            for row in product(QUARTERS, repeat=depth):
                across, down, side = 0, 0, 2 ** depth
                for quarter in row:
                    side //= 2
                    across += side if quarter in (1, 3) else 0
                    down += side if quarter in (2, 3) else 0
                self.assertEqual(cell_row(depth, across, down), row)

    def test_depth_200(self):
        self.assertEqual(cell_row(200, 0, 0), (0,) * 200)
        self.assertEqual(cell_row(200, 2 ** 200 - 1, 0), (1,) * 200)
        self.assertEqual(cell_row(200, 2 ** 199, 2 ** 200 - 1), (3,) + (2,) * 199)
        self.assertEqual(cell_row(200, 1, 2 ** 60), (0,) * 139 + (2,) + (0,) * 59 + (1,))

    def test_by_name(self):
        self.assertEqual(cell_row(down=1, depth=2, across=2), (1, 2))


class Drawn(unittest.TestCase):
    def test_depth_0(self):
        self.assertEqual(drawn((), "a", 0), [["a"]])
        self.assertEqual(drawn(HOUSE, (1, 6), 0), [["red"]])
        self.assertEqual(drawn(HOUSE, (0, 0), 0), [[None]])
        self.assertEqual(drawn(HOUSE, (2, 0), 0), [[None]])

    def test_of_a_colour(self):
        for depth in range(6):
            self.assertEqual(drawn((), "a", depth), [["a"] * 2 ** depth] * 2 ** depth)

    def test_a_colour_hidden_behind_looks(self):
        for depth, turn in product(range(4), TURNS):
            self.assertEqual(drawn(HOUSE, (1, turn), depth), [["red"] * 2 ** depth] * 2 ** depth)

    def test_without_a_colour(self):
        self.assertEqual(drawn(HOUSE, (2, 3), 2), [[None] * 4] * 4)

    def test_some(self):
        self.assertEqual(drawn(HOUSE, (0, 0), 1), [["a", None], ["b", "red"]])
        self.assertEqual(drawn(HOUSE, (0, 0), 2), [
            ["a", "a", "a", None],
            ["a", "a", "b", "red"],
            ["b", "b", "red", "red"],
            ["b", "b", "red", "red"],
        ])
        self.assertEqual(drawn(HOUSE, (3, 0), 1), [["red", "white"], [None, None]])
        self.assertEqual(drawn(HOUSE, (3, 0), 2), [
            ["red", "red", "white", "white"],
            ["red", "red", "white", "white"],
            [None, None, "red", "white"],
            [None, None, None, None],
        ])
        # As a clock goes: the lower left comes to the upper left, the upper left to the upper right.
        self.assertEqual(drawn(HOUSE, (0, 1), 1), [["b", "a"], ["red", None]])
        self.assertEqual(drawn(HOUSE, (0, 4), 1), [[None, "a"], ["red", "b"]])

    def test_each_cell_is_what_its_row_leads_to(self):
        for house in some_houses(12, 14):
            for look, depth in product(looks_of(house)[::5], range(4)):
                told = drawn(house, look, depth)
                self.assertEqual([len(row) for row in told], [2 ** depth] * 2 ** depth)
                for down, across in product(range(2 ** depth), repeat=2):
                    here = sight_at(house, look, cell_row(depth, across, down))
                    alikes = [colour for colour in "abc" if alike(house, here, colour)]
                    self.assertEqual(told[down][across], alikes[0] if alikes else None)

    def test_turned_pictures_to_depth_5(self):
        house = random_house(Random(51), 24, "abcdefghijkl", 0.7)
        for pane, turn in product((0, 7, 23), TURNS):
            self.assertEqual(drawn(house, (pane, turn), 5), turned_grid(drawn(house, (pane, 0), 5), turn))

    def test_what_is_told_is_the_askers_own(self):
        told = drawn(HOUSE, "a", 2)
        told[0][0] = "mine"
        self.assertEqual(told[1], ["a"] * 4)
        self.assertEqual(drawn(HOUSE, "a", 2), [["a"] * 4] * 4)
        rows = drawn(HOUSE, (2, 0), 3)
        self.assertEqual(len({id(row) for row in rows}), 8)
        self.assertEqual({type(row) for row in rows + [rows]}, {list})

    def test_by_name(self):
        self.assertEqual(drawn(depth=1, sight=(0, 0), house=HOUSE), [["a", None], ["b", "red"]])


class Counted(unittest.TestCase):
    def test_depth_0(self):
        self.assertEqual(counted((), "a", 0), [("a", 1)])
        self.assertEqual(counted(HOUSE, (1, 4), 0), [("red", 1)])
        self.assertEqual(counted(HOUSE, (0, 0), 0), [(None, 1)])

    def test_of_a_colour(self):
        self.assertEqual(counted((), "a", 3), [("a", 64)])
        self.assertEqual(counted((), "a", 200), [("a", 4 ** 200)])
        self.assertEqual(counted(HOUSE, (1, 5), 200), [("red", 4 ** 200)])

    def test_without_a_colour(self):
        self.assertEqual(counted(HOUSE, (2, 1), 1), [(None, 4)])
        self.assertEqual(counted(HOUSE, (2, 1), 200), [(None, 4 ** 200)])

    def test_some(self):
        self.assertEqual(counted(HOUSE, (0, 0), 1), [(None, 1), ("a", 1), ("b", 1), ("red", 1)])
        self.assertEqual(counted(HOUSE, (0, 0), 2), [(None, 1), ("a", 5), ("b", 5), ("red", 5)])
        self.assertEqual(counted(HOUSE, (3, 6), 2), [(None, 6), ("red", 5), ("white", 5)])

    def test_no_none_where_all_has_a_colour(self):
        house = (("b", "a", (1, 0), "c"), ("c", "c", "c", "b"))
        self.assertEqual(counted(house, (0, 0), 1), [(None, 1), ("a", 1), ("b", 1), ("c", 1)])
        self.assertEqual(counted(house, (0, 0), 2), [("a", 4), ("b", 5), ("c", 7)])
        self.assertEqual(counted(house, (1, 3), 3), [("b", 16), ("c", 48)])

    def test_depth_200(self):
        # In each depth one more quarter of what is left goes to each colour.
        third = (4 ** 200 - 1) // 3
        self.assertEqual(counted(HOUSE, (0, 2), 200), [(None, 1), ("a", third), ("b", third), ("red", third)])

    def test_as_many_as_are_drawn(self):
        for house in some_houses(25, 15):
            for look, depth in product(looks_of(house)[::4], range(5)):
                cells = [cell for row in drawn(house, look, depth) for cell in row]
                expected = [(what, cells.count(what)) for what in (None, "a", "b", "c") if what in cells]
                self.assertEqual(counted(house, look, depth), expected)

    def test_houses_of_24_panes_to_depth_200(self):
        rng = Random(52)
        for looks in (0.6, 0.97):
            house = random_house(rng, 24, "abcdefghijkl", looks)
            told = counted(house, (5, 3), 200)
            self.assertEqual(sum([number for _, number in told]), 4 ** 200)
            self.assertTrue(all([number > 0 for _, number in told]))
            colours = [what for what, _ in told]
            self.assertEqual(colours, [None] + colours_in(house, [(5, 3)]))

    def test_what_is_told_is_the_askers_own(self):
        told = counted(HOUSE, (0, 0), 1)
        self.assertIs(type(told), list)
        self.assertIs(type(told[0]), tuple)
        told.clear()
        self.assertEqual(len(counted(HOUSE, (0, 0), 1)), 4)

    def test_by_name(self):
        self.assertEqual(counted(sight="a", depth=2, house=()), [("a", 16)])


class Interface(unittest.TestCase):
    def test_each_is_defined_in_its_file(self):
        for function in (cell_row, drawn, counted):
            self.assertEqual(function.__module__, "wellpanes.cells")


if __name__ == "__main__":
    unittest.main()
