import unittest
from itertools import combinations, product

from pictures import QUARTERS, TURNS, deep_list, deep_tuple, turned_grid
from wellpanes.turns import back, behind, is_turn, row_seen, shown, yard_of
from wellpanes.words import SHOWN

# No two of its cells are alike, so no two turns of it are.
SQUARE = [[0, 1, 2], [3, 4, 5], [6, 7, 8]]


def turn_between(grid, other):
    return [turn for turn in TURNS if turned_grid(grid, turn) == other][0]


def all_that_come_of(turns):
    grids = [SQUARE]
    for grid in grids:
        for turn in turns:
            further = turned_grid(grid, turn)
            if further not in grids:
                grids.append(further)
    return sorted(turn_between(SQUARE, grid) for grid in grids)


class IsTurn(unittest.TestCase):
    def test_the_numbers_from_0_to_7_are(self):
        for turn in TURNS:
            self.assertIs(is_turn(turn), True)

    def test_nothing_else_is(self):
        wrong = [
            True, False, None, -1, -8, 8, 9, 10 ** 30, -10 ** 30, "", "0", "1", "red", [], [0], (), (0,), (1, 2),
            [[0]], ((True, None), ["a"]), deep_tuple(0, 10), deep_list(0, 10),
        ]
        for thing in wrong:
            with self.subTest(thing):
                self.assertIs(is_turn(thing), False)

    def test_by_name(self):
        self.assertIs(is_turn(thing=7), True)
        self.assertIs(is_turn(thing=8), False)


class Shown(unittest.TestCase):
    def test_the_table_is_as_told(self):
        told = (
            (0, 1, 2, 3), (2, 0, 3, 1), (3, 2, 1, 0), (1, 3, 0, 2),
            (1, 0, 3, 2), (3, 1, 2, 0), (2, 3, 0, 1), (0, 2, 1, 3),
        )
        self.assertEqual(SHOWN, told)
        self.assertIs(type(SHOWN), tuple)
        for row in SHOWN:
            self.assertIs(type(row), tuple)
            self.assertEqual([type(quarter) for quarter in row], [int] * 4)

    def test_all_turns_and_quarters_are_those_of_a_turned_square(self):
        for turn in TURNS:
            top, bottom = turned_grid([[0, 1], [2, 3]], turn)
            self.assertEqual([shown(turn, quarter) for quarter in QUARTERS], top + bottom, turn)

    def test_by_name(self):
        self.assertEqual(shown(turn=5, quarter=0), 3)
        self.assertEqual(shown(quarter=1, turn=1), 0)


class Behind(unittest.TestCase):
    def test_all_pairs_do_what_one_and_then_other_does(self):
        for one, other in product(TURNS, TURNS):
            both = turned_grid(turned_grid(SQUARE, one), other)
            self.assertEqual(behind(one, other), turn_between(SQUARE, both), (one, other))

    def test_the_order_counts(self):
        self.assertEqual(behind(4, 1), 5)
        self.assertEqual(behind(1, 4), 7)

    def test_it_tells_turns(self):
        for one, other in product(TURNS, TURNS):
            self.assertIs(type(behind(one, other)), int)

    def test_by_name(self):
        self.assertEqual(behind(one=4, other=1), 5)
        self.assertEqual(behind(other=4, one=1), 7)


class Back(unittest.TestCase):
    def test_each_is_undone(self):
        self.assertEqual([back(turn) for turn in TURNS], [0, 3, 2, 1, 4, 5, 6, 7])
        for turn in TURNS:
            self.assertEqual(turned_grid(turned_grid(SQUARE, turn), back(turn)), SQUARE)
            self.assertEqual(turned_grid(turned_grid(SQUARE, back(turn)), turn), SQUARE)

    def test_by_name(self):
        self.assertEqual(back(turn=3), 1)


class RowSeen(unittest.TestCase):
    def test_the_bare_row(self):
        for turn in TURNS:
            self.assertEqual(row_seen(turn, ()), ())

    def test_all_quarters_by_all_turns(self):
        for turn in TURNS:
            seen = row_seen(turn, (0, 1, 2, 3))
            self.assertIs(type(seen), tuple)
            self.assertEqual(seen, SHOWN[turn])

    def test_a_row_is_seen_in_its_order(self):
        self.assertEqual(row_seen(1, (0, 0, 3, 1, 2, 2)), (2, 2, 1, 0, 3, 3))
        self.assertEqual(row_seen(7, (1, 2, 0, 3, 1)), (2, 1, 0, 3, 2))

    def test_long_rows_are_undone_by_the_turn_back(self):
        for many, turn in product((60, 61, 200), TURNS):
            row = tuple([(3 * at * at + at // 5) % 4 for at in range(many)])
            seen = row_seen(turn, row)
            self.assertEqual(len(seen), many)
            self.assertEqual(list(seen), [SHOWN[turn][quarter] for quarter in row])
            self.assertEqual(row_seen(back(turn), seen), row)

    def test_by_name(self):
        self.assertEqual(row_seen(turn=4, row=(0, 1)), (1, 0))


class YardOf(unittest.TestCase):
    def test_of_none_there_is_the_one_that_leaves_all_as_it_is(self):
        self.assertEqual(yard_of([]), [0])
        self.assertEqual(yard_of(()), [0])

    def test_of_one(self):
        told = [[0], [0, 1, 2, 3], [0, 2], [0, 1, 2, 3], [0, 4], [0, 5], [0, 6], [0, 7]]
        self.assertEqual([yard_of([turn]) for turn in TURNS], told)

    def test_of_two(self):
        self.assertEqual(yard_of([4, 6]), [0, 2, 4, 6])
        self.assertEqual(yard_of([7, 5]), [0, 2, 5, 7])
        self.assertEqual(yard_of([2, 4]), [0, 2, 4, 6])
        self.assertEqual(yard_of([4, 5]), list(TURNS))
        self.assertEqual(yard_of([3, 7]), list(TURNS))

    def test_of_any(self):
        for many in range(9):
            for turns in combinations(TURNS, many):
                self.assertEqual(yard_of(list(turns)), all_that_come_of(turns), turns)
                self.assertEqual(yard_of(turns[::-1]), all_that_come_of(turns), turns)

    def test_the_same_one_more_than_once(self):
        self.assertEqual(yard_of([2, 2, 0, 2]), [0, 2])

    def test_what_is_told_is_the_askers_own(self):
        first = yard_of([5])
        self.assertIs(type(first), list)
        first.append("mine")
        self.assertEqual(yard_of([5]), [0, 5])
        self.assertIsNot(yard_of([]), yard_of([]))

    def test_nothing_handed_in_is_changed_or_told(self):
        handed = [0, 6]
        told = yard_of(handed)
        self.assertEqual(handed, [0, 6])
        self.assertIsNot(told, handed)
        handed.append(1)
        self.assertEqual(told, [0, 6])

    def test_by_name(self):
        self.assertEqual(yard_of(turns=[2]), [0, 2])


class Interface(unittest.TestCase):
    def test_each_is_defined_in_its_file(self):
        for told in (is_turn, shown, behind, back, row_seen, yard_of):
            self.assertEqual(told.__module__, "wellpanes.turns")


if __name__ == "__main__":
    unittest.main()
