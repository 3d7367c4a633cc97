import unittest
from random import Random

from pictures import QUARTERS, TURNS, colour_by_steps, random_house
from wellpanes.alike import parted
from wellpanes.alikecheck import shows_parted
from wellpanes.cells import drawn
from wellpanes.desk import answers
from wellpanes.errors import BadRow
from wellpanes.gallery import Gallery
from wellpanes.own import own_turns
from wellpanes.shares import shares
from wellpanes.texts import house_in, house_text, sight_text, spot_in, spot_text

# p is pane 0 of a house of two, q a colour, r another picture, by left and right itself.
BEGIN = ["pane a b 0.1 1.2", "pane c 0.0 d e", "hang p 0.0", "hang q red", "pane x x y y", "hang r 0.0"]
DONE = ["done"] * 6
# A row of each form that is well written.
WELL = [
    "pane a 0.0 12.7 abcdefgh", "hang p a", "hang abcdefgh 0.7", "take p", "turn p 7", "paint p 0123 a", "paint p - a",
    "set p 0 q 3", "set p - p 0", "join p q r p q", "lay p q r a", "recolour p a b", "repaint p 0 3 a",
    "repaint p - 0 a",
    "undo", "names", "likes", "house", "sight p", "shares p", "at p - 0", "at p 0123 3210", "same p q", "own p",
    "drawn p 0", "drawn p 3",
]
# And rows that are not.
BADLY = [
    "", " ", "a", "Names", "names p", "undo p", "likes -", "house 0", "log", "deeds", "twin", "hang", "paint", "NAMES",
    "pane a b c", "pane a b c d e", "pane a b c 0.8", "pane a b c 00.0", "pane a b c 0", "pane a b c A", "pane",
    "pane a b c -",
    "hang p", "hang p a a", "hang P a", "hang p 0", "hang p 0.8", "hang p ninechars", "hang ninechars a", "hang p1 a",
    "take", "take p q", "take -", "take P", "turn p", "turn p 8", "turn p 9", "turn p -", "turn p 00", "turn p 1.0",
    "turn p a",
    "turn 1 p", "turn p 1 1", "paint p a", "paint p 4 a", "paint p 0 A", "paint p 0 0.0", "paint p -0 a",
    "paint p -- a",
    "paint p 0 a a", "paint p 0 -", "set p 0 q", "set p 0 q 8", "set p 0 0.0 1", "set p q 0 1", "set p 4 q 1",
    "set p 0 q 1 1",
    "set_in p 0 q 1", "join p q r p", "join p q r p q r", "join p q r p 0.0", "join p q r p -", "lay p q r",
    "lay p q r -",
    "lay p q r a b", "lay p q 0.0 a", "recolour p a", "recolour p a b c d", "recolour p a -", "recolour p 0.0 a",
    "repaint p 0 a", "repaint p 0 4 a", "repaint p 0 01 a", "repaint p 0 - a", "repaint p 4 0 a", "repaint p 0 0 0.0",
    "sight", "sight p q", "sight 0.0", "shares", "shares p q", "at p 0", "at p 0 -", "at p - -", "at p 4 0", "at p 0 4",
    "at p 0 0 0", "same p", "same p q r", "same p 0.0", "own", "own p q", "own -", "drawn p", "drawn p 4", "drawn p -",
    "drawn p 00", "drawn p 2 2", "sight p\r",
]


def told(*rows):
    """The answers to these rows behind those of BEGIN."""
    every = answers("\n".join(BEGIN + list(rows)))
    assert every[:6] == DONE, every
    return every[6:]


class Case(unittest.TestCase):
    def assert_bad(self, row, text):
        with self.assertRaises(BadRow, msg=repr(text)) as caught:
            answers(text)
        self.assertIs(type(caught.exception), BadRow)
        self.assertEqual(caught.exception.what, row, repr(text))


class Texts(Case):
    def test_the_bare_text(self):
        self.assertEqual(answers(""), [])
        self.assertEqual(answers(text=""), [])

    def test_an_answer_for_each_row(self):
        for row in WELL:
            self.assertEqual(len(answers(row)), 1, row)
        every = answers("\n".join(WELL))
        self.assertEqual(len(every), len(WELL))
        self.assertIs(type(every), list)
        self.assertTrue(all([type(answer) is str for answer in every]))

    def test_rows_that_are_not_so_written(self):
        for row in BADLY:
            if row:
                self.assert_bad(0, row)
            self.assert_bad(2, f"names\nundo\n{row}\nhouse\nnot one")

    def test_blanks(self):
        for row in WELL:
            wrong_ones = [" " + row, row + " ", row + "  "] + ([row.replace(" ", "  ", 1)] if " " in row else [])
            for wrong in wrong_ones:
                self.assert_bad(1, f"undo\n{wrong}")

    def test_bare_rows(self):
        self.assert_bad(0, "\n")
        self.assert_bad(0, "\nnames")
        self.assert_bad(1, "names\n")
        self.assert_bad(1, "names\n\nnames")

    def test_ahead_of_all_answers(self):
        self.assert_bad(3, "take x\nhang p 0.0\nundo\nnames p")
        self.assert_bad(2, "\n".join(["hang p a", "repaint p - 0 a", "paint p 4 a", "take x y"]))

    def test_no_desk_knows_of_another(self):
        self.assertEqual(answers("hang p a\npane a b c d\nnames"), ["done", "done", "p"])
        self.assertEqual(answers("names\nhang p 0.0"), ["-", "refused NoHouse"])


class Deeds(Case):
    def test_pane_and_hang(self):
        self.assertEqual(answers("pane a b 0.1 1.2\npane c 0.0 d e\nhang p 0.0\nsight p\nhouse"), [
            "done", "done", "done", "0.0", "a b 0.1 1.0; e d 0.2 c"])
        self.assertEqual(answers("hang p red\nsight p\nhouse"), ["done", "red", "-"])

    def test_looks_into_panes_that_are_not_there_yet(self):
        self.assertEqual(answers("pane 1.0 1.1 a b\nhang p 0.0"), ["done", "refused NoHouse"])
        self.assertEqual(answers("pane 1.0 1.1 a b\npane c d e f\nhang p 0.0\nhouse"), [
            "done", "done", "done", "1.0 1.1 a b; c d e f"])

    def test_no_house(self):
        for rows in (
            ["hang p 0.0"], ["pane a b c d", "hang p 1.0"], ["pane a b c 1.0", "hang p 0.0"],
            ["pane a b c 1.0", "hang p red"], ["pane 0.0 a b c", "pane 2.1 a b c", "hang p 0.0"],
            ["pane 99999999999999999999.0 a b c", "hang p a"], ["pane a b c d", "hang p 99999999999999999999999.7"],
        ):
            every = answers("\n".join(rows + ["names", "undo"]))
            self.assertEqual(every, ["done"] * (len(rows) - 1) + ["refused NoHouse", "-", "no"])

    def test_the_house_at_hand_is_gone_behind_hang(self):
        self.assertEqual(answers("pane a b c d\nhang p 0.0\nhang q 0.0\nnames"), [
            "done", "done", "refused NoHouse", "p"])
        self.assertEqual(answers("pane a b c 1.0\nhang p 0.0\npane a b c d\nhang p 0.0\nhouse"), [
            "done", "refused NoHouse", "done", "done", "a b c d"])
        self.assertEqual(answers("pane a b c 1.0\nhang p 0.0\nhang p red\nnames"), [
            "done", "refused NoHouse", "done", "p"])

    def test_the_house_at_hand_stays_behind_all_else(self):
        rows = ["pane a b c 1.2", "hang p red"]
        self.assertEqual(answers("\n".join(rows)), ["done", "refused NoHouse"])
        between = [row for row in WELL if not row.startswith(("pane", "hang"))]
        every = answers("\n".join(["pane a b c 1.2"] + between + ["pane d e f g", "hang x 0.0", "sight x"]))
        self.assertEqual(every[-2:], ["done", "0.0"])

    def test_pane_is_no_deed_of_the_gallery(self):
        self.assertEqual(answers("pane a b c d\nundo\nhang p 0.0\nundo\nundo"), ["done", "no", "done", "yes", "no"])

    def test_take(self):
        self.assertEqual(told("take p", "names", "take p", "undo", "names"), [
            "done", "q r", "refused NoName", "yes", "p q r"])

    def test_turn(self):
        self.assertEqual(told("turn p 1", "at p 1 0", "turn p 3", "at p 1 0"), ["done", "a", "done", "b"])

    def test_paint(self):
        self.assertEqual(told("paint p 31 z", "at p 31 0", "at p 30 1", "paint p - w", "sight p"), [
            "done", "z", "e", "done", "w"])

    def test_set(self):
        self.assertEqual(told("set p 2 r 4", "drawn p 2", "set p - q 0", "sight p"), [
            "done", "a a b b/a a b b/x x e d/y y - c", "done", "red"])
        self.assertEqual(told("set r 1 r 1", "drawn r 2"), ["done", "x x y x/x x y x/y y y y/y y y y"])

    def test_join(self):
        self.assertEqual(told("join new q r r q", "drawn new 2", "join p p p p p", "at p 0 0", "at p 01 2"), [
            "done", "red red x x/red red y y/x x red red/y y red red", "done", "a", "b"])

    def test_lay(self):
        self.assertEqual(told("lay new r q x", "drawn new 1", "lay r p r a", "at r 0 0", "at r 1 0"), [
            "done", "red red/y y", "done", "x", "b"])

    def test_recolour(self):
        self.assertEqual(told("recolour r x y", "sight r", "recolour q red x", "sight q"), ["done", "y", "done", "x"])
        self.assertEqual(told("recolour r y q", "drawn r 1"), ["done", "x x/q q"])

    def test_repaint(self):
        self.assertEqual(told("repaint p 3 2 z", "drawn p 2"), ["done", "a a b b/a a b b/- a e d/- b z c"])

    def test_undo(self):
        self.assertEqual(told("undo", "names", "undo", "undo", "names", "undo"), ["yes", "p q", "yes", "yes", "-",
            "no"])

    def test_refused(self):
        self.assertEqual(told("repaint q - 0 a", "repaint p 0 0 a", "repaint r - 0 a", "repaint x - 0 a"), [
            "refused NoPane", "refused NoPane", "refused Even", "refused NoName"])
        for row in ("take x", "turn x 0", "paint x - a", "set x - p 0", "set p - x 0", "join new p p p x",
            "lay new p x a",
                    "lay new x p a", "recolour x a b", "sight x", "shares x", "at x - 0", "same x p", "same p x",
                    "own x",
                    "drawn x 0"):
            self.assertEqual(told(row, "names"), ["refused NoName", "p q r"], row)

    def test_what_is_refused_is_no_deed(self):
        self.assertEqual(told("take x", "repaint q - 0 a", "hang p 3.0", "undo", "names"), [
            "refused NoName", "refused NoPane", "refused NoHouse", "yes", "p q"])


class Asks(Case):
    def test_names(self):
        self.assertEqual(told("names"), ["p q r"])
        self.assertEqual(answers("names"), ["-"])

    def test_likes(self):
        self.assertEqual(told("likes"), ["p; q; r"])
        self.assertEqual(told("join a p p p p", "hang b red", "set c - p 0", "set b - r 3", "likes"), [
            "done", "done", "refused NoName", "done", "a; b r; p; q"])
        self.assertEqual(answers("likes"), ["-"])

    def test_house(self):
        self.assertEqual(told("house"), ["a b 0.1 2.0; x x y y; e d 0.2 c"])
        self.assertEqual(answers("house\nhang p red\nhouse"), ["-", "done", "-"])

    def test_sight(self):
        self.assertEqual(told("sight p", "sight q", "sight r"), ["0.0", "red", "1.0"])
        self.assertEqual(told("set q - r 2", "sight q", "sight r"), ["done", "1.0", "1.2"])

    def test_shares(self):
        self.assertEqual(told("shares p", "shares q", "shares r"), [
            "a 4/11; b 4/11; c 1/11; d 1/11; e 1/11", "red 1/1", "x 1/2; y 1/2"])
        rows = ["pane 1.0 a a b", "pane 1.0 1.0 1.1 1.2", "hang p 0.0", "shares p", "hang q a"]
        self.assertEqual(answers("\n".join(rows))[3], "- 1/4; a 1/2; b 1/4")
        self.assertEqual(answers("pane 0.0 0.0 0.0 0.1\nhang p 0.0\nshares p")[2], "- 1/1")

    def test_at(self):
        self.assertEqual(told("at p - 0", "at p - 2013", "at p 2222 3", "at p 31 2", "at q 12 3", "at p 20132 0132"), [
            "a", "-", "c", "d", "red", "-"])

    def test_same(self):
        self.assertEqual(told("same p p", "same q q", "same p q", "same r q"), ["yes", "yes", "no 0 0", "no 0 0"])
        self.assertEqual(answers("hang p a\nhang q b\nsame p q"), ["done", "done", "no - 0"])
        every = answers("pane a a a 0.1\nhang p 0.0\nhang q a\nsame q p\nsame p q")
        for answer in every[-2:]:
            self.assertEqual(answer[:3], "no ")
            spot = spot_in(answer[3:])
            self.assertIs(shows_parted((("a", "a", "a", (0, 1)),), (0, 0), "a", spot), True)

    def test_own(self):
        self.assertEqual(told("own p", "own q", "own r"), ["0", "0 1 2 3 4 5 6 7", "0 4"])

    def test_drawn(self):
        self.assertEqual(told("drawn p 0", "drawn q 0", "drawn p 1", "drawn r 1", "drawn q 1"), [
            "-", "red", "a b/- -", "x x/y y", "red red/red red"])
        deep = told("drawn p 3")[0].split("/")
        self.assertEqual([len(row.split(" ")) for row in deep], [8] * 8)
        self.assertEqual(deep[0], "a a a a b b b b")


class Many(Case):
    """Drawn rows beside a gallery and the functions that each of them stands for."""

    def test_drawn_houses(self):
        rng = Random(141)
        for _ in range(60):
            house = random_house(rng, rng.randrange(1, 4), ["a", "b", "red"], rng.choice((0.3, 0.6, 0.9)))
            sights = {name: (rng.randrange(len(house)), rng.choice(TURNS)) for name in "pq"}
            gallery, rows = Gallery(), []
            for name, sight in sights.items():
                gallery.hang(name, house, sight)
                rows += house_text(house).split("\n") + [f"hang {name} {sight_text(sight)}"]
            by, quarter, row = rng.choice(TURNS), rng.choice(QUARTERS), (rng.choice(QUARTERS), rng.choice(QUARTERS))
            gallery.set_in("p", row, "q", by=by)
            rows += [f"set p {row[0]}{row[1]} q {by}", "house", "sight p", "shares p",
                f"at p {quarter} {row[0]}{row[1]}",
                     "same p q", "own p", "drawn p 2", "likes"]
            told_there = answers("\n".join(rows))[-8:]
            self.assertEqual(told_there, self.expected(gallery, ((quarter,), row)), rows)

    def expected(self, gallery, spot):
        house, p, q = gallery.house(), gallery.sight("p"), gallery.sight("q")
        apart = parted(house, p, q)
        fractions = [f"{what or '-'} {top}/{bottom}" for what, (top, bottom) in shares(house, p)]
        return [
            "; ".join([" ".join([sight_text(sight) for sight in pane]) for pane in house]) or "-",
            sight_text(p),
            "; ".join(fractions),
            colour_by_steps(house, p, spot) or "-",
            "yes" if apart is None else f"no {spot_text(apart)}",
            " ".join([str(turn) for turn in own_turns(house, p)]),
            "/".join([" ".join([cell or "-" for cell in row]) for row in drawn(house, p, 2)]),
            "; ".join([" ".join(names) for names in gallery.likes()]),
        ]

    def test_the_house_can_be_read_again(self):
        rng = Random(142)
        for _ in range(20):
            house = random_house(rng, 4, "abc", 0.6)
            rows = house_text(house).split("\n") + ["hang p 2.3", "house", "sight p"]
            *_, panes, sight = answers("\n".join(rows))
            if panes != "-":
                again = [f"pane {pane}" for pane in panes.split("; ")] + [f"hang p {sight}", "house", "sight p"]
                self.assertEqual(answers("\n".join(again))[-2:], [panes, sight])
                self.assertEqual(house_text(house_in("\n".join(again[:-3]))), "\n".join(again[:-3]))

    def test_60_rows(self):
        rng = Random(143)
        house = random_house(rng, 24, "abcdefghijkl", 0.8)
        row = "".join([str(rng.choice(QUARTERS)) for _ in range(60)])
        rows = house_text(house).split("\n") + ["hang p 3.1"]
        rows += [f"paint p {row} a", "undo", "drawn p 3", "shares p"] * 8
        every = answers("\n".join(rows + ["own p", "house", "likes"]))
        self.assertEqual(len(every), 60)
        self.assertEqual(every[24:28], ["done", "done", "yes", every[31]])


class Interface(unittest.TestCase):
    def test_each_is_defined_in_its_file(self):
        self.assertEqual(answers.__module__, "wellpanes.desk")


if __name__ == "__main__":
    unittest.main()
