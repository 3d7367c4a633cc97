import unittest
from random import Random

from pictures import QUARTERS, TURNS, house_of, random_house, rows_to, some_houses
from wellpanes.errors import BadRow
from wellpanes.panes import is_house
from wellpanes.texts import house_in, house_text, sight_text, spot_in, spot_text

HOUSE = (("a", "red", (1, 7), (0, 0)), ("ninelets"[:8], (0, 3), "z", (1, 1)))
TEXT = "pane a red 1.7 0.0\npane ninelets 0.3 z 1.1"
# No word of these is a sight.
NO_SIGHTS = [
    "", "A", "Red", "ninechars", "a1", "a-b", "-", ".", "0", "1", "0.", ".0", "0.8", "0.9", "0.10", "0.00", "0.-1",
    "-1.0",
    "-0.0", "00.0", "01.0", "010.0", "0.0.0", "0..0", "0,0", "0.a", "a.0", "0.0a", "+0.0", "0.+0", "1e1.0", "1_0.0",
    "a.b",
    "(0,0)", "~", "0x1.0", "1x.0", "x.0", "0.x", "0.0\t", "\t0.0", "a\t", "0 .0",
]


class Case(unittest.TestCase):
    def assert_bad(self, row, function, text):
        with self.assertRaises(BadRow, msg=repr(text)) as caught:
            function(text)
        self.assertIs(type(caught.exception), BadRow)
        self.assertEqual(caught.exception.what, row, repr(text))
        self.assertIs(type(caught.exception.what), int)


class Sights(Case):
    def test_text(self):
        self.assertEqual(sight_text("red"), "red")
        self.assertEqual(sight_text((0, 0)), "0.0")
        self.assertEqual(sight_text((23, 7)), "23.7")
        self.assertEqual(sight_text((100, 4)), "100.4")
        self.assertEqual(sight_text(sight="a"), "a")


class Houses(Case):
    def test_text(self):
        self.assertEqual(house_text(()), "")
        self.assertEqual(house_text(HOUSE), TEXT)
        self.assertEqual(house_text((("a", "b", "c", "d"),)), "pane a b c d")
        self.assertEqual(house_text(house=()), "")

    def test_in(self):
        self.assertEqual(house_in(""), ())
        self.assertEqual(house_in(TEXT), HOUSE)
        self.assertEqual(house_in("pane a b c d"), (("a", "b", "c", "d"),))
        self.assertEqual(house_in(text="pane 0.0 0.1 0.2 0.7"), (((0, 0), (0, 1), (0, 2), (0, 7)),))
        told = house_in(TEXT)
        self.assertEqual([type(told), type(told[0]), type(told[0][2])], [tuple] * 3)

    def test_looks_into_panes_further_on(self):
        self.assertEqual(house_in("pane 1.2 a a a\npane a a a 0.1"), (((1, 2), "a", "a", "a"), ("a", "a", "a", (0, 1))))

    def test_each_way_and_back(self):
        rng = Random(131)
        houses = list(some_houses(60, 131)) + [house_of(24), random_house(rng, 24, ["abcdefgh", "z"], 0.7)]
        for house in houses + [random_house(rng, 60, "ab", 0.9)]:
            text = house_text(house)
            self.assertEqual(house_in(text), house)
            self.assertEqual(house_text(house_in(text)), text)

    def test_one_word_otherwise(self):
        for wrong in NO_SIGHTS:
            for at in range(4):
                words = ["a", "b", "0.1", "1.2"]
                words[at] = wrong
                row = f"pane {' '.join(words)}"
                self.assert_bad(0, house_in, row)
                self.assert_bad(1, house_in, f"pane a a a a\n{row}\npane 9.0 a a a")

    def test_blanks_and_words(self):
        for wrong in (
            " pane a b c d", "pane a b c d ", "pane  a b c d", "pane a  b c d", "pane a b c  d", "pane a b c",
            "pane a b c d e",
            "pane", "", " ", "a b c d", "pan a b c d", "Pane a b c d", "panes a b c d", "PANE a b c d",
            "pane pane a b c d",
            "pane\ta b c d", "pane a b c d\r", "pane a b c d\t", "pane,a b c d", "hang a b c d",
        ):
            if wrong:
                self.assert_bad(0, house_in, wrong)
            for at in range(3):
                rows = ["pane a b 0.0 c"] * 3
                rows[at] = wrong
                self.assert_bad(at, house_in, "\n".join(rows))

    def test_bare_rows(self):
        self.assert_bad(0, house_in, "\n")
        self.assert_bad(0, house_in, "\npane a b c d")
        self.assert_bad(1, house_in, "pane a b c d\n")
        self.assert_bad(1, house_in, "pane a b c d\n\npane a b c d")

    def test_a_pane_that_is_not_there(self):
        for number in (1, 2, 10, 24, 10 ** 30, 10 ** 100):
            self.assert_bad(0, house_in, f"pane a {number}.0 b c")
        self.assert_bad(1, house_in, "pane a 1.0 b c\npane 2.0 a b c")
        self.assert_bad(0, house_in, "pane a b c 2.7\npane 2.0 a b c")
        self.assertEqual(house_in("pane a b c 2.7\npane 2.0 a b c\npane a b c d")[0][3], (2, 7))

    def test_the_first_row_at_fault(self):
        self.assert_bad(1, house_in, "pane a b c d\npane a b c 9.0\npane a b c")
        self.assert_bad(1, house_in, "pane a b c d\npane a b c\npane a b c 9.0")
        # Rows at fault count among the panes that are there.
        self.assert_bad(1, house_in, "pane 1.0 b c d\n")

    def test_all_turns(self):
        for turn in range(10):
            if turn in TURNS:
                self.assertEqual(house_in(f"pane 0.{turn} a a a"), (((0, turn), "a", "a", "a"),))
            else:
                self.assert_bad(0, house_in, f"pane 0.{turn} a a a")

    def test_60_rows(self):
        text = "\n".join([f"pane {(at + 1) % 60}.{at % 8} abcdefgh 59.7 0.0" for at in range(60)])
        self.assertIs(is_house(house_in(text)), True)
        self.assertEqual(house_text(house_in(text)), text)
        self.assert_bad(59, house_in, text + " ")


class Spots(Case):
    def test_text(self):
        self.assertEqual(spot_text(((), (0,))), "- 0")
        self.assertEqual(spot_text(((0, 1, 2), (3,))), "012 3")
        self.assertEqual(spot_text(spot=((3,), (0, 1))), "3 01")

    def test_in(self):
        self.assertEqual(spot_in("- 0"), ((), (0,)))
        self.assertEqual(spot_in("012 3"), ((0, 1, 2), (3,)))
        self.assertEqual(spot_in(text="3 01"), ((3,), (0, 1)))

    def test_it_is_told_as_it_is_written(self):
        # Plain or not.
        self.assertEqual(spot_in("00 000"), ((0, 0), (0, 0, 0)))

    def test_each_way_and_back(self):
        for row in rows_to(3):
            for again in rows_to(2)[1:]:
                self.assertEqual(spot_in(spot_text((row, again))), (row, again))
        rng = Random(132)
        long = tuple([rng.choice(QUARTERS) for _ in range(60)])
        self.assertEqual(spot_in(spot_text((long, long[:24]))), (long, long[:24]))

    def test_wrong_ones(self):
        for wrong in (
            "", " ", "-", "0", "- ", " 0", "0 ", " - 0", "- 0 ", "-  0", "- 0 0", "- -", "0 -", "-- 0", "-0 0",
            "0- 0", "4 0",
            "0 4", "0 a", "a 0", "0.1 0", "0,1 0", "- 0\n", "\n- 0", "-\n0", "-\t0", "+1 0", "0 -1", "00", "() (0,)",
            "0_1 0", "0x 0", "0 0x",
        ):
            self.assert_bad(0, spot_in, wrong)


class Interface(unittest.TestCase):
    def test_each_is_defined_in_its_file(self):
        for function in (house_text, house_in, sight_text, spot_text, spot_in):
            self.assertEqual(function.__module__, "wellpanes.texts")


if __name__ == "__main__":
    unittest.main()
