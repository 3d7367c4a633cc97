import unittest
from fractions import Fraction
from random import Random

from pictures import QUARTERS, TURNS, deep_list, deep_tuple, looks_of, random_house, some_houses
from wellpanes.shares import share_paper, shares
from wellpanes.sharecheck import shows_shares

# 0 leads to 1, itself and 2; 2 and 4 have no colour; 3 looks alone, into 0, 2 and 4; 5 is of all colours.
HOUSE = (
    ("a", (0, 3), (1, 1), (2, 2)),
    ("b", "b", (1, 4), "c"),
    ((2, 1), (4, 0), (2, 7), (2, 0)),
    ((0, 1), (4, 5), (2, 0), (0, 0)),
    ((2, 1), (2, 0), (2, 1), (2, 3)),
    ("a", "b", "c", "d"),
)
NONE = ((None, (1, 1)),)
ONE = (("b", (2, 3)), ("c", (1, 3)))
ZERO = ((None, (1, 3)), ("a", (1, 3)), ("b", (2, 9)), ("c", (1, 9)))
FOURTHS = tuple([(what, (1, 4)) for what in "abcd"])
PAPER = [(0, 1, ZERO), (1, 1, ONE), (2, 0, NONE), (4, 0, NONE)]
OTHERS = [
    None, True, False, 0, 1, -1, 10 ** 30, "", "a", "1", "ninechars", "A", (), [], ((),), [()], [[]], (0,), [1], (1, 1),
    [1, 1], (True, 1), (1, True), (0, 1), (1, 0), (-1, 1), (1, -1), (-1, -1), (2, 2), (2, 4), (1, 1, 1), (1, 2),
    ("a", (1, 1)), (None, (1, 1)), (("a", (1, 1)),), [("a", (1, 1))], NONE, list(NONE), (0, 0, NONE), deep_tuple(1, 10),
    deep_list(1, 10), deep_tuple(("a", (1, 1)), 7), deep_list(("a", (1, 1)), 7),
]


def kinds_within(thing):
    """The thing with the kind of each of its parts, so that what is == and of other kinds is told apart."""
    if isinstance(thing, (list, tuple)):
        return (type(thing).__name__, [kinds_within(part) for part in thing])
    return (type(thing).__name__, thing)


def others_of(thing):
    """The thing with one part otherwise, by each of OTHERS, a part out or a part twice."""
    for other in OTHERS:
        if kinds_within(other) != kinds_within(thing):
            yield other
    if isinstance(thing, (list, tuple)):
        yield tuple(thing) if isinstance(thing, list) else list(thing)
        for at, part in enumerate(thing):
            head, tail = list(thing[:at]), list(thing[at + 1:])
            yield type(thing)(head + tail)
            yield type(thing)(head + [part, part] + tail)
            for other in others_of(part):
                yield type(thing)(head + [other] + tail)


def is_good_number(numbers, pane, house):
    """Whether the number is one of those that the document lets the pane have."""
    parts = [numbers[sight[0]] for sight in house[pane] if not isinstance(sight, str)]
    return len(parts) < 4 or min(parts) < numbers[pane]


class ShowsShares(unittest.TestCase):
    def assert_shows(self, expected, sight, what, thing, house=HOUSE):
        self.assertIs(shows_shares(house, sight, what, thing), expected, (sight, what, thing))

    def test_of_a_colour(self):
        self.assert_shows(True, "a", [("a", (1, 1))], [])
        self.assert_shows(True, "a", [("a", (1, 1))], [], ())
        self.assert_shows(False, "a", [("b", (1, 1))], [])
        self.assert_shows(False, "a", [], [])
        self.assert_shows(False, "a", [("a", (1, 1))], ())
        self.assert_shows(False, "a", [("a", (1, 1))], [(5, 1, FOURTHS)])

    def test_worked_out_by_hand(self):
        self.assert_shows(True, (0, 0), list(ZERO), PAPER)
        self.assert_shows(True, (1, 6), list(ONE), PAPER[1:2])
        self.assert_shows(True, (2, 6), list(NONE), PAPER[2:])
        self.assert_shows(True, (5, 1), list(FOURTHS), [(5, 1, FOURTHS)])

    def test_the_share_paper_itself(self):
        self.assertEqual(share_paper(HOUSE, (0, 0)), PAPER)
        told = 0
        rng = Random(1)
        for house in some_houses(150, 61):
            for sight in ["a"] + looks_of(house)[::3]:
                paper, list_of_shares = share_paper(house, sight), shares(house, sight)
                self.assert_shows(True, sight, list_of_shares, paper, house)
                rng.shuffle(paper)
                self.assert_shows(True, sight, list_of_shares, paper, house)
                told += list_of_shares == [(None, (1, 1))]
        self.assertTrue(told > 50, told)

    def test_houses_of_24_panes(self):
        rng = Random(2)
        for looks, colours in ((0.5, "abcdefghijkl"), (0.95, "abcdefghijkl"), (1, "a")):
            house = random_house(rng, 24, colours, looks)
            for sight in looks_of(house)[::40]:
                self.assert_shows(True, sight, shares(house, sight), share_paper(house, sight), house)

    def test_other_orders_and_turns(self):
        for turn in TURNS:
            self.assert_shows(True, (0, turn), list(ZERO), PAPER[::-1])
            self.assert_shows(True, (0, turn), list(ZERO), PAPER[2:] + PAPER[:2])

    def test_other_numbers_that_go_down(self):
        for number in (1, 2, 7, 10 ** 40):
            self.assert_shows(True, (1, 0), list(ONE), [(1, number, ONE)])
            self.assert_shows(True, (0, 0), list(ZERO), [(0, number, ZERO)] + PAPER[1:])

    def test_numbers_that_do_not_go_down(self):
        # 0 looks into 1 alone, 1 into 2 and into itself and 0, 2 has a colour.
        chain = (((1, 0),) * 4, ((2, 0), (1, 0), (0, 0), (0, 1)), ("a", "a", "a", (0, 0)))
        told = shares(chain, (0, 0))
        for numbers, expected in (
            ((3, 2, 1), True), ((9, 5, 4), True), ((9, 8, 1), True), ((2, 2, 1), False), ((3, 3, 1), False),
            ((1, 2, 1), False), ((3, 2, 2), False), ((3, 2, 3), False), ((2, 3, 1), False), ((3, 2, 0), False),
            ((0, 2, 1), False), ((3, 0, 1), False), ((-1, 2, 1), False), ((3, -2, 1), False), ((3, 2, -1), False),
        ):
            paper = [(pane, number, tuple(told)) for pane, number in enumerate(numbers)]
            self.assert_shows(expected, (0, 0), told, paper, chain)

    def test_a_look_into_any_lesser_number_will_do(self):
        three = [(3, 1, tuple(shares(HOUSE, (3, 0))))]
        self.assert_shows(True, (3, 0), shares(HOUSE, (3, 0)), PAPER + three)
        self.assert_shows(True, (3, 0), shares(HOUSE, (3, 0)), [(0, 7, ZERO)] + PAPER[1:] + three)

    def test_number_nought(self):
        # 4 and 2 look into one another alone; a colour or a look into another number must not be there.
        house = (((1, 0), (0, 0), (0, 0), (0, 0)), ((1, 0),) * 4, ((0, 0), (0, 1), "a", (0, 1)))
        both = [(0, 0, NONE), (1, 0, NONE)]
        self.assert_shows(True, (0, 0), list(NONE), both, house)
        self.assert_shows(True, (0, 0), list(NONE), [(0, 1, NONE), (1, 0, NONE)], house)
        self.assert_shows(False, (0, 0), list(NONE), [(0, 0, NONE), (1, 1, NONE)], house)
        self.assert_shows(False, (1, 0), list(NONE), [(1, 1, NONE)], house)
        two = ((None, (3, 4)), ("a", (1, 4)))
        self.assert_shows(True, (2, 0), list(two), both + [(2, 1, two)], house)
        self.assert_shows(False, (2, 0), list(two), both + [(2, 0, two)], house)
        self.assert_shows(False, (2, 0), list(NONE), both + [(2, 0, NONE)], house)
        # By no sum would a pane of looks into itself alone be told otherwise.
        alone = (((0, 0),) * 4,)
        for wrong in (ONE, (("a", (1, 1)),), ((None, (1, 2)), ("a", (1, 2)))):
            self.assert_shows(False, (0, 0), list(wrong), [(0, 0, wrong)], alone)
            self.assert_shows(False, (0, 0), list(wrong), [(0, 1, wrong)], alone)

    def test_sums_that_are_not_so(self):
        for wrong in (
            ((None, (1, 3)), ("a", (1, 3)), ("b", (1, 9)), ("c", (2, 9))),
            ((None, (1, 3)), ("a", (1, 3)), ("b", (1, 3))),
            ((None, (1, 3)), ("a", (1, 3)), ("b", (2, 9)), ("d", (1, 9))),
            (("a", (2, 3)), ("b", (2, 9)), ("c", (1, 9))), (("a", (1, 1)),), NONE, (),
        ):
            self.assert_shows(False, (0, 0), list(wrong), [(0, 1, wrong)] + PAPER[1:])
            self.assert_shows(False, (0, 0), list(ZERO), [(0, 1, wrong)] + PAPER[1:])
            self.assert_shows(False, (0, 0), list(wrong), PAPER)

    def test_panes_that_are_not_just_those(self):
        for at in range(4):
            self.assert_shows(False, (0, 0), list(ZERO), PAPER[:at] + PAPER[at + 1:])
            self.assert_shows(False, (0, 0), list(ZERO), PAPER + [PAPER[at]])
        for pane in (3, 5, 6, -1, 10 ** 20):
            self.assert_shows(False, (0, 0), list(ZERO), PAPER + [(pane, 1, FOURTHS)])
        self.assert_shows(False, (1, 0), list(ONE), PAPER)
        self.assert_shows(False, (1, 0), list(ONE), [])

    def test_pairs_that_do_not_rise(self):
        for wrong in (ZERO[::-1], ZERO[1:] + ZERO[:1], (ZERO[0], ZERO[2], ZERO[1], ZERO[3])):
            self.assert_shows(False, (0, 0), list(ZERO), [(0, 1, wrong)] + PAPER[1:])
            self.assert_shows(False, (0, 0), list(wrong), PAPER)
        half = ((None, (1, 2)), (None, (1, 2)))
        self.assert_shows(False, (2, 0), list(NONE), [(2, 0, half), (4, 0, NONE)])
        halves = (("b", (1, 3)), ("b", (1, 3)), ("c", (1, 3)))
        self.assert_shows(False, (1, 0), list(ONE), [(1, 1, halves)])
        self.assert_shows(False, (1, 0), list(halves), [(1, 1, ONE)])

    def test_fractions_that_are_none(self):
        for wrong in ((4, 6), (-2, -3), (2, 3, 1), [2, 3], (2,), 2, "2/3", (True, True), None):
            thing = (("b", wrong), ("c", (1, 3)))
            self.assert_shows(False, (1, 0), list(ONE), [(1, 1, thing)])
            self.assert_shows(False, (1, 0), list(thing), [(1, 1, ONE)])
        nought = ONE[:1] + ONE[1:] + (("d", (0, 1)),)
        self.assert_shows(False, (1, 0), list(ONE), [(1, 1, nought)])
        self.assert_shows(False, (1, 0), list(nought), [(1, 1, ONE)])

    def test_pairs_that_the_sums_would_let_pass(self):
        # Of a pane that looks into itself nought comes of nought, and worse of worse.
        house = (("a", "a", "a", (0, 0)),)
        one = ("a", (1, 1))
        self.assert_shows(True, (0, 0), [one], [(0, 1, (one,))], house)
        for wrong in ((one, ("d", (0, 1))), ((None, (0, 1)), one), (("a", (1, 0)),), (("a", (-1, -1)),)):
            self.assert_shows(False, (0, 0), list(wrong), [(0, 1, wrong)], house)
        # Nothing looks into 5, so the last one of two pairs of a colour may be right.
        for wrong in ((("a", (1, 2)),) + FOURTHS, FOURTHS[::-1], FOURTHS + FOURTHS):
            self.assert_shows(False, (5, 0), list(wrong), [(5, 1, wrong)])
            self.assert_shows(False, (5, 0), list(FOURTHS), [(5, 1, wrong)])
            self.assert_shows(False, (5, 0), list(wrong), [(5, 1, FOURTHS)])

    def test_colours_alone_are_not_none(self):
        self.assert_shows(False, (5, 0), list(NONE), [(5, 0, NONE)])
        self.assert_shows(False, (5, 0), list(FOURTHS), [(5, 0, FOURTHS)])

    def test_truths_are_no_numbers(self):
        ones = [(1, (1, 1)), (True, (1, 1))]
        house = (("a",) * 4, ("a", "a", "a", (0, 0)))
        good = [(0, 1, (("a", (1, 1)),)), (1, 1, (("a", (1, 1)),))]
        self.assert_shows(True, (1, 0), [("a", (1, 1))], good, house)
        self.assert_shows(False, (1, 0), ones, good, house)
        for fraction in ((True, 1), (1, True), (True, True)):
            self.assert_shows(False, (1, 0), [("a", fraction)], good, house)
            self.assert_shows(False, (1, 0), [("a", (1, 1))], [(0, 1, (("a", fraction),)), good[1]], house)
            self.assert_shows(False, "a", [("a", fraction)], [], house)
        self.assert_shows(False, (1, 0), [("a", (1, 1))], [good[0], (True, 1, (("a", (1, 1)),))], house)
        self.assert_shows(False, (1, 0), [("a", (1, 1))], [(False, 1, (("a", (1, 1)),)), good[1]], house)
        self.assert_shows(False, (1, 0), [("a", (1, 1))], [good[0], (1, True, (("a", (1, 1)),))], house)
        self.assert_shows(False, (2, 0), list(NONE), [(2, False, NONE), (4, 0, NONE)])

    def test_lists_and_tuples_the_wrong_way_about(self):
        self.assert_shows(False, (0, 0), list(ZERO), tuple(PAPER))
        self.assert_shows(False, (0, 0), ZERO, PAPER)
        self.assert_shows(False, (0, 0), [list(part) for part in ZERO], PAPER)
        self.assert_shows(False, (0, 0), [(what, list(share)) for what, share in ZERO], PAPER)
        self.assert_shows(False, (0, 0), list(ZERO), [list(part) for part in PAPER])
        self.assert_shows(False, (0, 0), list(ZERO), [(0, 1, list(ZERO))] + PAPER[1:])
        self.assert_shows(False, (0, 0), list(ZERO), [(0, 1, tuple([list(part) for part in ZERO]))] + PAPER[1:])

    def test_one_thing_otherwise(self):
        papers = [((2, 0), list(NONE), PAPER[2:]), ((1, 0), list(ONE), PAPER[1:2]), ("a", [("a", (1, 1))], [])]
        for sight, what, paper in papers:
            for other in others_of(what):
                self.assert_shows(False, sight, other, paper)
            for other in others_of(paper):
                # Any number from 1 would do for 1, which has colours.
                if kinds_within(other) != kinds_within([(1, 10 ** 30, ONE)]):
                    self.assert_shows(False, sight, what, other)

    def test_things_of_any_kind(self):
        for thing in OTHERS + [[other] for other in OTHERS] + [[other] * 2 for other in OTHERS]:
            for what in (list(ZERO), [], None):
                self.assert_shows(False, (0, 0), what, thing)
            if kinds_within(thing) != kinds_within([("a", (1, 1))]):
                self.assert_shows(False, "a", thing, [])
            self.assert_shows(False, (0, 0), thing, PAPER)

    def test_by_the_plain_words(self):
        """Drawn numbers: it is shown just where each pane's number is one that it may have."""
        rng = Random(3)
        told = {True: 0, False: 0}
        for house in some_houses(400, 62):
            sight = rng.choice(looks_of(house))
            paper = [(pane, number if rng.random() < 0.6 else rng.randrange(4), told_there)
                     for pane, number, told_there in share_paper(house, sight)]
            numbers = {pane: number for pane, number, _ in paper}
            expected = all([self.may_be(house, numbers, shares_there, pane) for pane, _, shares_there in paper])
            self.assert_shows(expected, sight, shares(house, sight), paper, house)
            told[expected] += 1
        self.assertTrue(min(told.values()) > 50, told)

    def may_be(self, house, numbers, shares_there, pane):
        if numbers[pane] > 0:
            return is_good_number(numbers, pane, house)
        into = [numbers.get(sight[0]) if isinstance(sight, tuple) else None for sight in house[pane]]
        return shares_there == NONE and into == [0, 0, 0, 0]

    def test_shares_are_those_of_the_quarters(self):
        of_panes = {pane: told for pane, _, told in PAPER}
        for pane, told in of_panes.items():
            sums = {}
            for quarter in QUARTERS:
                sight = HOUSE[pane][quarter]
                for what, share in ((sight, (1, 1)),) if isinstance(sight, str) else of_panes[sight[0]]:
                    sums[what] = sums.get(what, 0) + Fraction(*share) / 4
            self.assertEqual(sums, {what: Fraction(*share) for what, share in told})

    def test_nothing_handed_in_is_changed(self):
        paper, what = list(PAPER), list(ZERO)
        shows_shares(HOUSE, (0, 0), what, paper)
        self.assertEqual((paper, what), (PAPER, list(ZERO)))

    def test_by_name(self):
        self.assertIs(shows_shares(thing=PAPER, what=list(ZERO), sight=(0, 0), house=HOUSE), True)


class Interface(unittest.TestCase):
    def test_each_is_defined_in_its_file(self):
        self.assertEqual(shows_shares.__module__, "wellpanes.sharecheck")


if __name__ == "__main__":
    unittest.main()
