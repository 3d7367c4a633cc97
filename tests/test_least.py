import unittest
from itertools import product
from random import Random

from pictures import QUARTERS, TURNS, colour_by_steps, looks_of, made_otherwise, random_house, sights_of, some_houses
from wellpanes.alike import alike
from wellpanes.fewestcheck import shows_fewest
from wellpanes.least import fewest, fewest_paper, least
from wellpanes.panes import beside, is_house, numbered_on, quarter_of, sight_at, turned

# 1 is 0 turned by 1, 2 and 3 lead to one another, 4 is all a behind a look, 5 has no colour.
HOUSE = (
    ("a", "b", "c", (1, 2)),
    ("c", "a", (0, 0), "b"),
    ((3, 0), "a", "b", "b"),
    ((2, 4), (4, 1), "b", "c"),
    ("a", (6, 2), "a", (6, 7)),
    ((5, 2), (5, 0), (5, 5), (5, 1)),
    ("a", "a", "a", "a"),
    ("x", "y", (0, 1), (2, 5)),
)
CHAIN = tuple([((at + 1, 3), "a", "b", (at + 1, 0)) for at in range(23)]) + (("a", "b", "a", "c"),)


def least_by_the_words(house, sights):
    """The least house, worked out as the document says it, by alike alone."""
    sources = []

    def told(sight):
        for colour in [sight] if isinstance(sight, str) else ["a", "b", "c"]:
            if alike(house, sight, colour):
                return colour
        for at, source in enumerate(sources):
            for turn in TURNS:
                if alike(house, turned(source, turn), sight):
                    return (at, turn)
        sources.append(sight)
        return (len(sources) - 1, 0)
    new_sights = [told(sight) for sight in sights]
    panes = []
    while len(panes) < len(sources):
        source = sources[len(panes)]
        panes.append(tuple([told(quarter_of(house, source, quarter)) for quarter in QUARTERS]))
    return tuple(panes), new_sights


def sums_to_none(case, house, sights):
    case.assertEqual(least(house, sights), ((), sights))
    case.assertEqual(fewest(house, sights), 0)
    case.assertEqual(fewest_paper(house, sights), ([], []))


class Least(unittest.TestCase):
    def test_no_sights(self):
        self.assertEqual(least((), []), ((), []))
        self.assertEqual(least(HOUSE, []), ((), []))
        self.assertEqual(least(HOUSE, ()), ((), []))

    def test_colours_alone(self):
        sums_to_none(self, (), ["a"])
        sums_to_none(self, HOUSE, ["zz", "a", "zz"])

    def test_a_colour_hidden_behind_looks(self):
        self.assertEqual(least(HOUSE, [(4, 3), "b", (6, 0)]), ((), ["a", "b", "a"]))
        self.assertEqual(least((((1, 0), "a", "a", "a"), (("a",) * 4)), [(0, 1)]), ((), ["a"]))

    def test_without_a_colour(self):
        self.assertEqual(least(HOUSE, [(5, 3)]), ((((0, 0),) * 4,), [(0, 0)]))
        self.assertEqual(least(HOUSE, [(5, 3), (5, 6)]), ((((0, 0),) * 4,), [(0, 0), (0, 0)]))
        # Nothing tells pictures without a colour apart, so one pane is enough.
        house = (((1, 0), (1, 1), (0, 2), (1, 3)), ((0, 0),) * 4)
        self.assertEqual(least(house, [(1, 3), "b", (0, 0)]), ((((0, 0),) * 4,), [(0, 0), "b", (0, 0)]))

    def test_one_pane(self):
        self.assertEqual(least((("a", "b", "c", "d"),), [(0, 0)]), ((("a", "b", "c", "d"),), [(0, 0)]))
        # As a clock goes, c is at the top left then, a at the top right.
        self.assertEqual(least((("a", "b", "c", "d"),), [(0, 1)]), ((("c", "a", "d", "b"),), [(0, 0)]))

    def test_the_same_sight_twice(self):
        self.assertEqual(
            least((("a", "b", "c", "d"),), [(0, 0), (0, 0), "a", "a"]),
            ((("a", "b", "c", "d"),), [(0, 0), (0, 0), "a", "a"]))
        self.assertEqual(
            least((("a", "b", "c", "d"),), [(0, 1), (0, 0), (0, 4)]), ((("c", "a", "d", "b"),), [(0, 0), (0, 3), (0, 5)]))

    def test_a_picture_hidden_in_another_pane_turned(self):
        # 1 is 0 turned by 1, so what 0 leads to is itself, turned by 1 and then by 2.
        self.assertEqual(least(HOUSE, [(0, 0), (1, 0)]), ((("a", "b", "c", (0, 3)),), [(0, 0), (0, 1)]))
        house = (("a", "b", "c", (0, 3)), ("c", "a", (0, 0), "b"))
        self.assertEqual(least(house, [(0, 0), (1, 0)]), ((("a", "b", "c", (0, 3)),), [(0, 0), (0, 1)]))
        self.assertEqual(least(house, [(1, 3)]), ((("a", "b", "c", (0, 3)),), [(0, 0)]))
        # Turned by 2 in place of 0 it's another one.
        house = (("a", "b", "c", (0, 3)), ("c", "a", (0, 2), "b"))
        self.assertEqual(least(house, [(1, 3), (0, 0)])[1], [(0, 0), (1, 0)])

    def test_of_the_turns_that_do_the_least_is_told(self):
        house = (("a", "a", "b", "b"), ("b", "b", "a", "a"), ("a", "b", "a", "b"))
        # 1 is 0 turned by 2, or flipped over; 2 is it turned by 3, or by 7.
        self.assertEqual(
            least(house, [(0, 4), (0, 0), (1, 0), (2, 0)]),
            ((("a", "a", "b", "b"),), [(0, 0), (0, 0), (0, 2), (0, 3)]))
        self.assertEqual(least(house, [(2, 6), (0, 0)]), ((("a", "b", "a", "b"),), [(0, 0), (0, 1)]))

    def test_sights_go_ahead_of_quarters(self):
        house = (((1, 0), (2, 0), "a", "a"), ("a", "a", "a", (3, 0)), ("a", "a", "b", "b"), ("c", "a", "b", "a"))
        self.assertEqual(
            least(house, [(0, 0), (2, 0)]),
            ((((2, 0), (1, 0), "a", "a"), ("a", "a", "b", "b"), ("a", "a", "a", (3, 0)), ("c", "a", "b", "a")),
             [(0, 0), (1, 0)]))

    def test_quarters_in_order_pane_by_pane(self):
        house = (((1, 0), "a", (2, 0), "b"), ((3, 0), "a", "a", "b"), ((4, 0), "a", "c", "b"),
                 ("p", "q", "r", "s"), ("t", "u", "v", "w"))
        self.assertEqual(least(house, [(0, 0)]), (house, [(0, 0)]))
        # Turned by 2 the quarter 2 comes to stand at 1, ahead of what was at 0.
        self.assertEqual(least(house, [(0, 2)]), (
            (("b", (1, 0), "a", (2, 0)), ("b", "c", "a", (3, 0)), ("b", "a", "a", (4, 0)),
             ("w", "v", "u", "t"), ("s", "r", "q", "p")),
            [(0, 0)]))

    def test_it_is_what_the_words_say(self):
        rng = Random(71)
        for house in some_houses(120, 17):
            sights = [rng.choice(sights_of(house)) for _ in range(rng.randrange(5))]
            self.assertEqual(least(house, sights), least_by_the_words(house, sights), (house, sights))

    def test_its_sights_are_alike_to_those_asked_for(self):
        rng = Random(72)
        for looks, colours in ((0.4, "abcdefghijkl"), (0.8, "ab"), (0.97, "a")):
            house = random_house(rng, 24, colours, looks)
            sights = [rng.choice(sights_of(house)) for _ in range(6)]
            new, told = least(house, sights)
            self.assertIs(is_house(new), True)
            self.assertEqual([type(told), type(new)], [list, tuple])
            both = beside(house, new)
            for old_sight, new_sight in zip(sights, told):
                self.assertIs(alike(both, old_sight, numbered_on(new_sight, 24)), True)
            for one, other, turn in product(range(len(new)), range(len(new)), TURNS):
                if one < other:
                    self.assertIs(alike(new, (one, turn), (other, 0)), False)

    def test_the_same_of_pictures_made_otherwise(self):
        rng = Random(73)
        for looks, colours in ((0.4, "abcdefghijkl"), (0.7, "abc"), (0.95, "ab"), (1, "a")):
            house = random_house(rng, 11, colours, looks)
            other, told_there = made_otherwise(rng, house)
            self.assertEqual(len(other), 23)
            sights = [rng.choice(sights_of(house)) for _ in range(6)]
            told = least(house, sights)
            self.assertEqual(least(other, [told_there(sight) for sight in sights]), told)
            self.assertEqual(least(beside(other, house), [numbered_on(sight, 23) for sight in sights]), told)
            self.assertEqual(least(*told), told)

    def test_chains_of_24_panes(self):
        new, told = least(CHAIN, [(0, 0)])
        self.assertEqual((len(new), told), (24, [(0, 0)]))
        self.assertEqual(least(new, told), (new, told))
        self.assertEqual(least(CHAIN, [(20, 0), (0, 0)])[1], [(0, 0), (1, 0)])
        alike_ones = CHAIN[:23] + (((0, 3), "a", "b", (0, 0)),)
        self.assertEqual(least(alike_ones, [(5, 0)]), ((((0, 3), "a", "b", (0, 0)),), [(0, 0)]))

    def test_what_is_told_is_the_askers_own(self):
        sights = [(0, 0), "a"]
        told = least(HOUSE, sights)[1]
        self.assertIsNot(told, sights)
        told.clear()
        self.assertEqual(sights, [(0, 0), "a"])
        self.assertEqual(len(least(HOUSE, sights)[1]), 2)
        self.assertIsNot(least((), ["a"])[1], least((), ["a"])[1])

    def test_by_name(self):
        self.assertEqual(least(sights=("a", (6, 0)), house=HOUSE), ((), ["a", "a"]))


class Fewest(unittest.TestCase):
    def test_some(self):
        self.assertEqual(fewest(HOUSE, [(5, 0)]), 1)
        self.assertEqual(fewest(HOUSE, [(2, 0)]), 2)
        self.assertEqual(fewest(HOUSE, [(4, 0), (6, 7)]), 0)
        self.assertEqual(fewest(CHAIN, [(0, 0)]), 24)
        self.assertEqual(fewest(CHAIN, [(22, 0), (23, 5)]), 2)
        self.assertEqual(fewest(CHAIN, ((22, 0), "a")), 2)

    def test_as_many_as_the_least_house_has(self):
        rng = Random(74)
        for house in some_houses(40, 18):
            sights = [rng.choice(sights_of(house)) for _ in range(rng.randrange(7))]
            self.assertEqual(fewest(house, sights), len(least_by_the_words(house, sights)[0]))

    def test_by_name(self):
        self.assertEqual(fewest(sights=[(5, 0)], house=HOUSE), 1)


def assert_paper(case, house, sights, many, thing):
    """Asserts each clause of what a paper of many is, as the document has them."""
    case.assertIs(type(thing), tuple)
    ways, spots = thing
    case.assertEqual([type(ways), type(spots)], [list, list])
    case.assertEqual(len(ways), many)
    looks = []
    for at, row in ways:
        case.assertEqual([type(at), type(row)], [int, tuple])
        looks.append(sight_at(house, sights[at], row))
        case.assertIs(type(looks[-1]), tuple)
    parted = {}
    for one, other, turn, spot in spots:
        told = colour_by_steps(house, turned(looks[one], turn), spot), colour_by_steps(house, looks[other], spot)
        if one == other:
            case.assertEqual(turn, 0)
        else:
            case.assertLess(one, other)
            case.assertNotEqual(*told)
        parted.setdefault((one, other, turn), []).append(told[1])
    for one, other, turn in product(range(many), range(many), TURNS):
        if one < other:
            case.assertIn((one, other, turn), parted)
    for one in range(many):
        told = parted[(one, one, 0)]
        case.assertTrue(None in told or len(set(told)) > 1)


class FewestPaper(unittest.TestCase):
    def test_no_panes(self):
        self.assertEqual(fewest_paper((), []), ([], []))
        self.assertEqual(fewest_paper(HOUSE, [(4, 0), "b"]), ([], []))

    def test_some(self):
        for sights in ([(0, 0)], [(5, 0)], [(2, 0), (3, 5)], [(7, 1), (5, 0), "a"], ((7, 0), (0, 0), (0, 4))):
            assert_paper(self, HOUSE, sights, fewest(HOUSE, sights), fewest_paper(HOUSE, sights))

    def test_pictures_of_one_colour_that_do_not_end(self):
        house = (("a", "a", "a", (0, 0)), ("a", (1, 0), (1, 0), "a"), ((0, 0), (1, 0), "a", (2, 2)))
        sights = [(2, 0), (1, 0)]
        self.assertEqual(fewest(house, sights), 3)
        assert_paper(self, house, sights, 3, fewest_paper(house, sights))

    def test_all_kinds_of_houses(self):
        rng = Random(75)
        for house in some_houses(80, 19):
            sights = [rng.choice(sights_of(house)) for _ in range(rng.randrange(5))]
            assert_paper(self, house, sights, fewest(house, sights), fewest_paper(house, sights))

    def test_houses_of_24_panes(self):
        rng = Random(76)
        for looks, colours in ((0.5, "abcdefghijkl"), (0.97, "ab"), (0.98, "a")):
            house = random_house(rng, 24, colours, looks)
            sights = rng.sample(looks_of(house), 6)
            many, paper = fewest(house, sights), fewest_paper(house, sights)
            assert_paper(self, house, sights, many, paper)
            self.assertIs(shows_fewest(house, sights, many, paper), True)
            self.assertIs(shows_fewest(house, sights, many + 1, paper), False)
            self.assertIs(shows_fewest(house, sights, many - 1, paper), False)

    def test_chains_of_24_panes(self):
        paper = fewest_paper(CHAIN, [(0, 0)])
        assert_paper(self, CHAIN, [(0, 0)], 24, paper)
        self.assertEqual(paper, fewest_paper(CHAIN, [(0, 0)]))

    def test_what_is_told_is_the_askers_own(self):
        ways, spots = fewest_paper(HOUSE, [(2, 0)])
        ways.clear()
        spots.clear()
        assert_paper(self, HOUSE, [(2, 0)], 2, fewest_paper(HOUSE, [(2, 0)]))
        ways, spots = fewest_paper((), [])
        self.assertIsNot(ways, spots)

    def test_by_name(self):
        assert_paper(self, HOUSE, [(5, 0)], 1, fewest_paper(sights=[(5, 0)], house=HOUSE))


class Interface(unittest.TestCase):
    def test_each_is_defined_in_its_file(self):
        for function in (least, fewest, fewest_paper):
            self.assertEqual(function.__module__, "wellpanes.least")


if __name__ == "__main__":
    unittest.main()
