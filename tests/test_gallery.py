import unittest
from itertools import product
from random import Random

from pictures import (
    QUARTERS, TURNS, begins_with, colour_by_steps, looks_of, made_otherwise, quarters_along, random_house, rest_of,
    rows_to, some_spots)
from wellpanes.alike import alike
from wellpanes.changes import joined, painted, recoloured
from wellpanes.errors import Even, NoDeed, NoName, NoPane
from wellpanes.gallery import Gallery
from wellpanes.least import least
from wellpanes.mixing import laid
from wellpanes.own import own_turns, turns_between
from wellpanes.panes import beside, numbered_on, quarter_of, sight_at, turned
from wellpanes.words import SHOWN

# 0 is unlike all its turns, 1 is itself when left and right are exchanged, 2 has no colour, 3 is all a, 4 is 0 turned.
HOUSE = (
    ("a", "b", "c", (1, 0)),
    ("a", "a", "b", "b"),
    ((2, 0), (2, 1), (2, 2), (2, 3)),
    ("a", "a", "a", "a"),
    ("c", "a", (1, 1), "b"),
    ("x", (0, 2), (5, 1), (0, 5)),
)
SPOTS = some_spots()
FEW = some_spots(2, 1)
DEEDS = [
    ("hang", "p", (), "a"), ("take", "p"), ("turn", "p", 1), ("paint", "p", (1,), "a"), ("set_in", "p", (1,), "q"),
    ("join", "p", ["p", "q", "p", "q"]), ("recolour", "p", {"a": "b"}), ("repaint", "p", (), 1, "z"),
]


def gallery_of(**sights):
    """Pictures of HOUSE by their names."""
    told = Gallery()
    for name, sight in sights.items():
        told.hang(name, HOUSE, sight)
    return told


def do(gallery, deed):
    """What the deed tells, or the class and the what of its refusal."""
    word, *rest = deed
    more = rest.pop() if rest and isinstance(rest[-1], dict) and word in ("lay", "set_in") else {}
    try:
        return getattr(gallery, word)(*rest, **more)
    except (NoName, NoPane, Even, NoDeed) as refusal:
        return (type(refusal), refusal.what)


def seen_of(gallery):
    """All that its asks tell but the log."""
    names = gallery.names()
    return (names, gallery.house(), [gallery.sight(name) for name in names], gallery.likes(), gallery.deeds(),
        len(gallery))


class Case(unittest.TestCase):
    def assert_least(self, gallery):
        names = gallery.names()
        sights = [gallery.sight(name) for name in names]
        self.assertEqual(least(gallery.house(), sights), (gallery.house(), sights))
        self.assertEqual(names, sorted(names))
        self.assertEqual(len(gallery), len(names))

    def assert_is(self, gallery, name, house, sight):
        """The picture of this name is alike to the sight of the house."""
        self.assert_least(gallery)
        both = beside(gallery.house(), house)
        self.assertIs(alike(both, gallery.sight(name), numbered_on(sight, len(gallery.house()))), True, name)

    def assert_refused(self, refusal, what, ask, *arguments, **more):
        with self.assertRaises(refusal) as caught:
            ask(*arguments, **more)
        self.assertIs(type(caught.exception), refusal)
        self.assertEqual(caught.exception.what, what)
        self.assertIs(type(caught.exception.what), type(what))


class NoPictures(Case):
    def test_at_first(self):
        self.assertEqual(seen_of(Gallery()), ([], (), [], [], 0, 0))
        self.assertEqual(Gallery().log(), [])
        self.assertIs(Gallery().undo(), False)

    def test_no_arguments(self):
        self.assertRaises(TypeError, Gallery, HOUSE)


class Deeds(Case):
    def test_hang(self):
        gallery = Gallery()
        self.assertIs(gallery.hang("p", HOUSE, (0, 0)), None)
        self.assert_is(gallery, "p", HOUSE, (0, 0))
        gallery.hang(sight=(4, 2), house=HOUSE, name="q")
        gallery.hang("o", (), "red")
        self.assertEqual(gallery.names(), ["o", "p", "q"])
        self.assert_is(gallery, "p", HOUSE, (0, 0))
        self.assert_is(gallery, "q", HOUSE, (4, 2))
        self.assertEqual(gallery.sight("o"), "red")

    def test_hang_in_the_place_of_a_name(self):
        gallery = gallery_of(p=(0, 0), q=(1, 1))
        gallery.hang("p", HOUSE, (5, 3))
        self.assertEqual(gallery.names(), ["p", "q"])
        self.assert_is(gallery, "p", HOUSE, (5, 3))
        self.assert_is(gallery, "q", HOUSE, (1, 1))

    def test_take(self):
        gallery = gallery_of(p=(0, 0), q=(1, 1), r="a")
        self.assertIs(gallery.take("p"), None)
        self.assertEqual(gallery.names(), ["q", "r"])
        self.assert_is(gallery, "q", HOUSE, (1, 1))
        gallery.take(name="q")
        self.assertEqual(seen_of(gallery), (["r"], (), ["a"], [["r"]], 5, 1))

    def test_turn(self):
        for turn, by in product(TURNS, TURNS):
            gallery = gallery_of(p=(5, turn), q=(0, 0))
            self.assertIs(gallery.turn("p", by), None)
            self.assert_is(gallery, "p", HOUSE, turned((5, turn), by))
            self.assert_is(gallery, "q", HOUSE, (0, 0))
        gallery.turn(by=3, name="q")
        self.assert_is(gallery, "q", HOUSE, (0, 3))

    def test_paint(self):
        for turn in TURNS:
            for row in rows_to(2):
                gallery = gallery_of(p=(5, turn), q=(0, 0))
                self.assertIs(gallery.paint("p", row, "z"), None)
                self.assert_is(gallery, "p", *painted(HOUSE, (5, turn), row, "z"))
                self.assert_is(gallery, "q", HOUSE, (0, 0))
        gallery.paint(colour="y", row=(0, 0, 0), name="q")
        self.assert_is(gallery, "q", *painted(HOUSE, (0, 0), (0, 0, 0), "y"))

    def test_set_in(self):
        for by in TURNS:
            gallery = gallery_of(p=(5, 2), q=(0, 1))
            self.assertIs(gallery.set_in("p", (1, 3), "q", by=by), None)
            self.assert_is(gallery, "p", *painted(HOUSE, (5, 2), (1, 3), turned((0, 1), by)))
            self.assert_is(gallery, "q", HOUSE, (0, 1))
        gallery = gallery_of(p=(5, 2), q=(0, 1))
        gallery.set_in("p", (2,), "q")
        house, sight = painted(HOUSE, (5, 2), (2,), (0, 1))
        self.assert_is(gallery, "p", house, sight)
        gallery.set_in(by=5, other="p", row=(), name="q")
        self.assert_is(gallery, "q", house, turned(sight, 5))

    def test_set_in_itself(self):
        for by in TURNS:
            gallery = gallery_of(p=(5, 2))
            gallery.set_in("p", (0, 1), "p", by=by)
            self.assert_is(gallery, "p", *painted(HOUSE, (5, 2), (0, 1), turned((5, 2), by)))

    def test_by_is_handed_in_by_name_alone(self):
        self.assertRaises(TypeError, gallery_of(p=(0, 0), q="a").set_in, "p", (1,), "q", 1)

    def test_join(self):
        gallery = gallery_of(p=(0, 3), q=(1, 1), r="a")
        self.assertIs(gallery.join("new", ["p", "q", "r", "p"]), None)
        self.assert_is(gallery, "new", *joined(HOUSE, [(0, 3), (1, 1), "a", (0, 3)]))
        gallery.join(four=("p", "p", "new", "q"), name="p")
        self.assert_is(gallery, "p", *joined(*self.with_new()))
        self.assert_is(gallery, "q", HOUSE, (1, 1))
        gallery.join("r", ["r"] * 4)
        self.assertEqual(gallery.sight("r"), "a")

    def with_new(self):
        house, new = joined(HOUSE, [(0, 3), (1, 1), "a", (0, 3)])
        return house, [(0, 3), (0, 3), new, (1, 1)]

    def test_lay(self):
        for one, other in product(TURNS, (0, 5)):
            gallery = gallery_of(p=(0, one), q=(5, other))
            self.assertIs(gallery.lay("new", "p", "q", bare="a"), None)
            self.assert_is(gallery, "new", *laid(HOUSE, (0, one), (5, other), bare="a"))
            gallery.lay(bare="c", other="p", one="q", name="p")
            self.assert_is(gallery, "p", *laid(HOUSE, (5, other), (0, one), bare="c"))
            self.assert_is(gallery, "q", HOUSE, (5, other))
        gallery.lay("q", "q", "q", bare="a")
        self.assert_is(gallery, "q", HOUSE, (5, other))

    def test_bare_is_handed_in_by_name_alone(self):
        gallery = gallery_of(p=(0, 0), q="a")
        self.assertRaises(TypeError, gallery.lay, "p", "p", "q", "a")
        self.assertRaises(TypeError, gallery.lay, "p", "p", "q")

    def test_recolour(self):
        gallery = gallery_of(p=(0, 0), q=(5, 1))
        self.assertIs(gallery.recolour("p", {"a": "b", "b": "a", "zz": "x"}), None)
        self.assert_is(gallery, "p", *recoloured(HOUSE, (0, 0), {"a": "b", "b": "a"}))
        self.assert_is(gallery, "q", HOUSE, (5, 1))
        gallery.recolour(colours={"x": "a"}, name="q")
        self.assert_is(gallery, "q", *recoloured(HOUSE, (5, 1), {"x": "a"}))

    def test_a_deed_that_changes_nothing_is_one_too(self):
        gallery = gallery_of(p=(0, 0), q=(0, 0))
        ahead = seen_of(gallery)[:4]
        deeds = [("hang", "p", HOUSE, (4, 3)), ("turn", "p", 0), ("paint", "p", (0,), "a"), ("set_in", "p", (), "q"),
                 ("lay", "p", "p", "q", {"bare": "a"}), ("recolour", "p", {}), ("repaint", "p", (), 0, "a")]
        for at, deed in enumerate(deeds):
            self.assertIs(do(gallery, deed), None)
            self.assertEqual(seen_of(gallery)[:4], ahead)
            self.assertEqual(gallery.deeds(), 3 + at)
        for _ in deeds:
            self.assertIs(gallery.undo(), True)
        self.assertEqual((seen_of(gallery)[:4], gallery.deeds()), (ahead, 2))

    def test_nothing_handed_in_is_kept(self):
        gallery = gallery_of(p=(0, 0), q="a")
        four, colours = ["p", "q", "p", "q"], {"a": "b"}
        gallery.join("r", four)
        gallery.recolour("p", colours)
        ahead = seen_of(gallery)
        four[0], colours["a"] = "q", "c"
        four.clear()
        self.assertEqual(seen_of(gallery), ahead)
        self.assertIs(gallery.undo(), True)
        gallery.recolour("p", {"a": "b"})
        self.assertEqual(seen_of(gallery), ahead)

    def test_nothing_handed_in_is_changed(self):
        four, colours = ["p", "q", "p", "q"], {"a": "b"}
        gallery = gallery_of(p=(0, 0), q="a")
        gallery.join("p", four)
        gallery.recolour("p", colours)
        self.assertEqual((four, colours), (["p", "q", "p", "q"], {"a": "b"}))


def painted_steps(house, seen, quarter):
    """A dict: of each look that is seen, turned somehow, the steps from it into the quarter that is painted."""
    ways = [(turned(seen, turn), step) for turn, step in product(TURNS, QUARTERS) if SHOWN[turn][step] == quarter]
    return {look: [step for way, step in ways if alike(house, way, look)] for look in looks_of(house)}


def repainted_colour(house, sight, steps, colour, spot):
    """What is told at the spot once what is seen is painted, wherever it is come to, by going step by step."""
    here = sight
    for step in quarters_along(spot, len(spot[0]) + len(spot[1]) * (8 * len(house) + 1)):
        if isinstance(here, str):
            return here
        if step in steps[here]:
            return colour
        here = quarter_of(house, here, step)
    return here if isinstance(here, str) else None


class Repaint(Case):
    def assert_repainted(self, gallery, name, row, quarter, colour, spots):
        house, names = gallery.house(), gallery.names()
        sights = {each: gallery.sight(each) for each in names}
        steps = painted_steps(house, sight_at(house, sights[name], row), quarter)
        self.assertIs(gallery.repaint(name, row, quarter, colour), None)
        self.assert_least(gallery)
        self.assertEqual(gallery.names(), names)
        for each, spot in product(names, spots):
            expected = repainted_colour(house, sights[each], steps, colour, spot)
            self.assertEqual(colour_by_steps(gallery.house(), gallery.sight(each), spot), expected, (each, spot))

    def test_at_the_bare_row(self):
        for quarter in QUARTERS:
            gallery = Gallery()
            gallery.hang("p", (("a", "b", "c", "d"),), (0, 0))
            gallery.repaint("p", (), quarter, "z")
            pane = ["a", "b", "c", "d"]
            pane[quarter] = "z"
            self.assertEqual(gallery.house(), (tuple(pane),))

    def test_seen_turned(self):
        # The quarter is the one as it is seen from p, and q shows the same picture otherwise.
        for turn, other, quarter in product(TURNS, TURNS, QUARTERS):
            gallery = Gallery()
            house = (("a", "b", "c", "d"),)
            gallery.hang("p", house, (0, turn))
            gallery.hang("q", house, (0, other))
            gallery.repaint("p", (), quarter, "z")
            pane = ["a", "b", "c", "d"]
            pane[SHOWN[turn][quarter]] = "z"
            self.assert_is(gallery, "p", (tuple(pane),), (0, turn))
            self.assert_is(gallery, "q", (tuple(pane),), (0, other))

    def test_deep_within_and_wherever_it_is_seen(self):
        for turn in TURNS:
            gallery = gallery_of(p=(5, turn), q=(0, 3), r=(4, 0), s=(1, 1))
            row = (SHOWN[turn].index(1),)
            self.assert_repainted(gallery, "p", row, 2, "z", FEW)
            # p's quarter of 5 is 0 turned, and so are q and r, but not s.
            self.assert_is(gallery, "s", HOUSE, (1, 1))
            self.assertIn("z", {colour_by_steps(gallery.house(), gallery.sight("q"), spot) for spot in FEW})
            self.assertIn("z", {colour_by_steps(gallery.house(), gallery.sight("r"), spot) for spot in FEW})

    def test_within_itself(self):
        house = (("a", "b", "c", (0, 1)),)
        gallery = Gallery()
        gallery.hang("p", house, (0, 0))
        gallery.repaint("p", (), 1, "z")
        self.assertEqual(gallery.house(), (("a", "z", "c", (0, 1)),))
        gallery.repaint("p", (3,), 1, "y")
        # In the quarter 3 it is turned as a clock goes: at the top right is its own top left there.
        self.assertEqual(gallery.house(), (("y", "z", "c", (0, 1)),))
        gallery.repaint("p", (), 3, "x")
        self.assertEqual(gallery.house(), (("y", "z", "c", "x"),))

    def test_made_otherwise_it_is_one_picture(self):
        # Two panes of the house handed in are one picture, so both are painted.
        house = (("a", "b", (1, 3), "c"), ("b", "d", "a", "e"), ("a", "b", "e", "d"), ("f", (1, 0), "g", (2, 3)))
        self.assertIs(alike(house, (1, 0), (2, 3)), True)
        gallery = Gallery()
        gallery.hang("p", house, (3, 0))
        self.assert_repainted(gallery, "p", (1,), 1, "z", SPOTS)
        self.assertEqual([sight_at(gallery.house(), gallery.sight("p"), (at, 1)) for at in (1, 3)], ["z", "z"])

    def test_drawn_galleries(self):
        rng = Random(121)
        done = 0
        for _ in range(150):
            gallery = Gallery()
            house = random_house(rng, 3, "abc", rng.choice((0.3, 0.6, 0.9)))
            for name in "pq":
                gallery.hang(name, house, (rng.randrange(3), rng.choice(TURNS)))
            row = rng.choice(rows_to(2))
            seen = sight_at(gallery.house(), gallery.sight("p"), row)
            if not isinstance(seen, str) and own_turns(gallery.house(), seen) == [0]:
                self.assert_repainted(gallery, "p", row, rng.choice(QUARTERS), rng.choice("abz"), rng.sample(SPOTS, 40))
                done += 1
        self.assertTrue(done > 40, done)

    def test_no_pane(self):
        gallery = gallery_of(p=(0, 0), q="a", r=(3, 5))
        self.assert_refused(NoPane, "p", gallery.repaint, "p", (0,), 1, "z")
        self.assert_refused(NoPane, "p", gallery.repaint, "p", (0, 3, 2), 1, "z")
        self.assert_refused(NoPane, "q", gallery.repaint, "q", (), 1, "z")
        self.assert_refused(NoPane, "r", gallery.repaint, "r", (), 1, "z")

    def test_even(self):
        gallery = gallery_of(p=(0, 0), q=(1, 1), r=(2, 3), s=(5, 1))
        self.assert_refused(Even, (0, 4), gallery.repaint, "p", (3,), 1, "z")
        self.assert_refused(Even, (0, 6), gallery.repaint, "q", (), 1, "z")
        self.assert_refused(Even, tuple(TURNS), gallery.repaint, "r", (1, 2), 1, "z")
        for turn in TURNS:
            gallery.hang("t", (("a", "b", "b", "a"),), (0, turn))
            self.assert_refused(Even, (0, 2, 5, 7), gallery.repaint, "t", (), 0, "z")
            gallery.hang("t", HOUSE, (0, turn))
            row = (SHOWN[turn].index(3),)
            self.assert_refused(Even, tuple(own_turns(HOUSE, (1, turn))), gallery.repaint, "t", row, 0, "z")

    def test_no_pane_goes_ahead_of_even(self):
        # What is all of one colour is itself by all turns, too.
        self.assert_refused(NoPane, "p", gallery_of(p=(3, 0)).repaint, "p", (), 1, "z")

    def test_by_name(self):
        gallery = gallery_of(p=(0, 0))
        gallery.repaint(colour="z", quarter=1, row=(), name="p")
        self.assertEqual(sight_at(gallery.house(), gallery.sight("p"), (1,)), "z")


class Refusals(Case):
    def test_names_that_are_not_there(self):
        gallery = gallery_of(p=(0, 0), q=(1, 0))
        for deed, what in (
            (("take", "x"), "x"), (("turn", "x", 1), "x"), (("paint", "x", (), "a"), "x"), (("set_in", "x", (), "p"),
            "x"),
            (("set_in", "p", (), "x"), "x"), (("set_in", "y", (), "x"), "y"), (("recolour", "x", {"a": "b"}), "x"),
            (("join", "new", ["p", "x", "q", "y"]), "x"), (("join", "new", ["p", "y", "x", "new"]), "y"),
            (("join", "new", ["p", "q", "p", "new"]), "new"), (("lay", "new", "x", "y", {"bare": "a"}), "x"),
            (("lay", "new", "p", "y", {"bare": "a"}), "y"), (("lay", "new", "p", "new", {"bare": "a"}), "new"),
            (("repaint", "x", (), 0, "a"), "x"), (("sight", "x"), "x"), (("same", "p", "x"), "x"),
            (("same", "y", "x"), "y"), (("same", "x", "p"), "x"),
        ):
            self.assertEqual(do(gallery, deed), (NoName, what), deed)

    def test_set_in_by_a_name_that_is_not_there(self):
        self.assert_refused(NoName, "x", gallery_of(p=(0, 0)).set_in, other="x", name="p", row=(1,), by=2)
        self.assert_refused(NoName, "x", gallery_of(p=(0, 0)).lay, bare="a", other="y", one="x", name="p")

    def test_a_refused_deed_changes_nothing_but_the_log(self):
        gallery = gallery_of(p=(0, 0), q=(1, 0), r="a")
        gallery.turn("p", 1)
        gallery.undo()
        ahead, log = seen_of(gallery), gallery.log()
        for deed, refusal in (
            (("take", "x"), (NoName, "x")), (("turn", "x", 1), (NoName, "x")), (("paint", "x", (), "a"), (NoName, "x")),
            (("set_in", "p", (), "x"), (NoName, "x")), (("join", "x", ["x"] * 4), (NoName, "x")),
            (("lay", "x", "p", "x", {"bare": "a"}), (NoName, "x")), (("recolour", "x", {}), (NoName, "x")),
            (("repaint", "x", (), 0, "a"), (NoName, "x")), (("repaint", "r", (), 0, "a"), (NoPane, "r")),
            (("repaint", "q", (), 0, "a"), (Even, (0, 4))),
        ):
            self.assertEqual(do(gallery, deed), refusal)
            self.assertEqual(seen_of(gallery), ahead)
            log += [("in", deed[0]), ("out", deed[0])]
            self.assertEqual(gallery.log(), log)
        self.assertIs(gallery.undo(), True)
        self.assertEqual(gallery.names(), ["p", "q"])

    def test_asks_leave_no_trace(self):
        gallery = gallery_of(p=(0, 0))
        log = gallery.log()
        for ask in (("sight", "x"), ("same", "p", "x"), ("as_of", 7)):
            self.assertIn(do(gallery, ask)[0], (NoName, NoDeed))
        seen_of(gallery)
        gallery.twin()
        self.assertEqual(gallery.log(), log)


class Undo(Case):
    def test_each_deed(self):
        for deed in DEEDS + [("lay", "p", "p", "q", {"bare": "a"}), ("lay", "new", "p", "q", {"bare": "a"}),
                             ("set_in", "p", (0,), "p", {"by": 3}), ("hang", "new", HOUSE, (5, 0))]:
            gallery = gallery_of(p=(0, 0), q=(1, 0))
            ahead = seen_of(gallery)
            self.assertIs(do(gallery, deed), None)
            self.assertNotEqual(seen_of(gallery), ahead)
            self.assertEqual(gallery.deeds(), 3)
            self.assertIs(gallery.undo(), True)
            self.assertEqual(seen_of(gallery), ahead)

    def test_more_than_once_and_of_none(self):
        gallery = gallery_of(p=(0, 0), q=(1, 0))
        seen = [seen_of(gallery)]
        for deed in DEEDS[2:]:
            do(gallery, deed)
            seen.append(seen_of(gallery))
        for expected in seen[-2::-1]:
            self.assertIs(gallery.undo(), True)
            self.assertEqual(seen_of(gallery), expected)
        self.assertIs(gallery.undo(), True)
        self.assertIs(gallery.undo(), True)
        self.assertIs(gallery.undo(), False)
        self.assertIs(gallery.undo(), False)
        self.assertEqual(seen_of(gallery), seen_of(Gallery()))

    def test_deeds_behind_an_undo(self):
        gallery = gallery_of(p=(0, 0))
        gallery.turn("p", 1)
        gallery.undo()
        gallery.turn("p", 2)
        self.assert_is(gallery, "p", HOUSE, (0, 2))
        self.assertEqual(gallery.deeds(), 2)
        gallery.undo()
        self.assert_is(gallery, "p", HOUSE, (0, 0))

    def test_a_refused_deed_is_not_undone(self):
        gallery = gallery_of(p=(0, 0))
        do(gallery, ("take", "x"))
        gallery.undo()
        self.assertEqual(gallery.names(), [])


class Asks(Case):
    def test_house_and_sights_are_the_least_ones_by_the_order_of_the_names(self):
        sights = {"p": (5, 2), "o": (4, 1), "q": (0, 3), "n": "red"}
        gallery = gallery_of(**sights)
        house, told = least(HOUSE, [sights[name] for name in sorted(sights)])
        self.assertEqual(gallery.house(), house)
        self.assertEqual([gallery.sight(name) for name in sorted(sights)], told)
        self.assertEqual(gallery.sight(name="n"), "red")

    def test_same(self):
        gallery = gallery_of(p=(0, 0), q=(4, 3), r=(4, 0), s=(3, 1), t="a", u=(2, 5), v=(2, 0))
        for one, other in product("pqrstuv", repeat=2):
            expected = one == other or {one, other} in ({"p", "q"}, {"s", "t"}, {"u", "v"})
            self.assertIs(gallery.same(one, other), expected, (one, other))
        self.assertIs(gallery.same(other="q", one="p"), True)

    def test_likes(self):
        gallery = gallery_of(p=(0, 0), d=(1, 0), q=(4, 2), a=(5, 0), s=(3, 1), t="a", u=(2, 5), v="b", c=(1, 3), b="b")
        self.assertEqual(gallery.likes(), [["a"], ["b", "v"], ["c", "d"], ["p", "q"], ["s", "t"], ["u"]])

    def test_likes_of_colours(self):
        self.assertEqual(gallery_of(p="red", q="rose", r="r", s="red").likes(), [["p", "s"], ["q"], ["r"]])

    def test_likes_of_drawn_galleries(self):
        rng = Random(122)
        for _ in range(40):
            house = random_house(rng, 2, "ab", 0.3)
            other, told_there = made_otherwise(rng, house)
            gallery = Gallery()
            for name in "stuvw":
                look = rng.choice(looks_of(house) + ["a", "b"])
                gallery.hang(name, *rng.choice(((house, look), (other, told_there(look)))))
            told = gallery.likes()
            self.assertEqual(sorted(sum(told, [])), list("stuvw"))
            self.assertEqual(told, sorted([sorted(names) for names in told]))
            of_name = {name: at for at, names in enumerate(told) for name in names}
            for one, two in product("stuvw", repeat=2):
                turns = turns_between(gallery.house(), gallery.sight(one), gallery.sight(two))
                self.assertEqual(of_name[one] == of_name[two], turns != [])

    def test_deeds(self):
        gallery = Gallery()
        for many in range(1, 4):
            gallery.hang("p", HOUSE, (many, 0))
            self.assertEqual(gallery.deeds(), many)
        gallery.undo()
        self.assertEqual(gallery.deeds(), 2)

    def test_as_of(self):
        gallery = gallery_of(p=(0, 0), q=(1, 0))
        for deed in DEEDS[2:5] + [("take", "x")] + DEEDS[5:]:
            do(gallery, deed)
        gallery.undo()
        many = gallery.deeds()
        self.assertEqual(many, 7)
        ahead, log = seen_of(gallery), gallery.log()
        for number in range(many + 1):
            told = gallery.as_of(number)
            self.assertIs(type(told), Gallery)
            self.assertEqual((told.deeds(), told.log()), (number, []))
            self.assertEqual(gallery.as_of(many=number), told)
        self.assertEqual(seen_of(gallery.as_of(many)), ahead)
        self.assertEqual(seen_of(gallery.as_of(0)), seen_of(Gallery()))
        self.assertEqual(gallery.as_of(2), gallery_of(p=(0, 0), q=(1, 0)))
        self.assertEqual((seen_of(gallery), gallery.log()), (ahead, log))

    def test_deeds_can_be_undone_there(self):
        gallery = gallery_of(p=(0, 0), q=(1, 0), r="a")
        told = gallery.as_of(2)
        self.assertIs(told.undo(), True)
        self.assertEqual(told.names(), ["p"])
        self.assertEqual(told.log(), [("in", "undo"), ("out", "undo")])
        self.assertIs(told.undo(), True)
        self.assertIs(told.undo(), False)
        self.assertEqual(gallery.names(), ["p", "q", "r"])

    def test_no_deed(self):
        gallery = gallery_of(p=(0, 0), q=(1, 0))
        for many in (-1, -2, 3, 4, 10 ** 20):
            self.assert_refused(NoDeed, many, gallery.as_of, many)
        gallery.undo()
        self.assert_refused(NoDeed, 2, gallery.as_of, 2)
        self.assert_refused(NoDeed, 1, Gallery().as_of, 1)

    def test_twin(self):
        gallery = gallery_of(p=(0, 0), q=(1, 0))
        gallery.turn("p", 1)
        twin = gallery.twin()
        self.assertIs(type(twin), Gallery)
        self.assertEqual(seen_of(twin), seen_of(gallery))
        self.assertEqual(twin.log(), [])

    def test_a_twin_shares_nothing(self):
        gallery = gallery_of(p=(0, 0), q=(1, 0))
        twin = gallery.twin()
        ahead = seen_of(gallery)
        for deed in DEEDS[1:2] + [("undo",)] + DEEDS[2:]:
            do(twin, deed)
            self.assertEqual(seen_of(gallery), ahead)
        self.assertEqual(len(gallery.log()), 4)
        twin, seen = gallery.twin(), seen_of(gallery.twin())
        for deed in DEEDS[2:] + [("undo",)] * 9:
            do(gallery, deed)
            self.assertEqual(seen_of(twin), seen)
        self.assertEqual(twin.log(), [])
        self.assertIs(twin.undo(), True)

    def test_log(self):
        gallery = gallery_of(p=(0, 0), q=(1, 0))
        words = ["hang", "hang"]
        further = [("lay", "p", "p", "q", {"bare": "a"}), ("undo",), ("take", "x"), ("undo",)]
        for deed in DEEDS + further + [("undo",)] * 9:
            do(gallery, deed)
            words.append(deed[0])
            self.assertEqual(gallery.log(), [(way, word) for word in words for way in ("in", "out")])
        self.assertIs(type(gallery.log()), list)

    def test_what_is_told_is_the_askers_own(self):
        gallery = gallery_of(p=(0, 0), q=(4, 0), r=(1, 0))
        gallery.take("r")
        ahead, log = seen_of(gallery), gallery.log()
        gallery.names().append("mine")
        gallery.log().clear()
        likes = gallery.likes()
        likes[0].clear()
        likes.append("mine")
        self.assertEqual((seen_of(gallery), gallery.log()), (ahead, log))
        self.assertIsNot(gallery.likes()[0], gallery.likes()[0])


class Equal(Case):
    def assert_equal(self, expected, one, other):
        self.assertIs(one == other, expected)
        self.assertIs(one != other, not expected)
        self.assertIs(other == one, expected)
        self.assertIs(other != one, not expected)

    def test_galleries(self):
        self.assert_equal(True, Gallery(), Gallery())
        self.assert_equal(True, gallery_of(p=(0, 0), q=(1, 0)), gallery_of(q=(1, 4), p=(4, 3)))
        self.assert_equal(False, gallery_of(p=(0, 0)), Gallery())
        self.assert_equal(False, gallery_of(p=(0, 0)), gallery_of(q=(0, 0)))
        self.assert_equal(False, gallery_of(p=(0, 0)), gallery_of(p=(0, 0), q=(0, 0)))
        self.assert_equal(False, gallery_of(p=(0, 0)), gallery_of(p=(0, 1)))
        self.assert_equal(False, gallery_of(p=(0, 0), q=(1, 0)), gallery_of(p=(1, 0), q=(0, 0)))
        self.assert_equal(False, gallery_of(p="a"), gallery_of(p="b"))
        self.assert_equal(True, gallery_of(p="a"), gallery_of(p=(3, 0)))

    def test_neither_deeds_nor_the_log_count(self):
        gallery = gallery_of(p=(0, 0))
        other = gallery_of(q=(1, 0), p=(0, 1))
        other.take("q")
        other.turn("p", 3)
        other.undo()
        other.turn("p", 3)
        self.assert_equal(True, gallery, other)

    def test_of_pictures_made_otherwise(self):
        rng = Random(123)
        for _ in range(30):
            house = random_house(rng, 3, "abc", 0.6)
            other, told_there = made_otherwise(rng, house)
            look, by = rng.choice(looks_of(house)), rng.choice(looks_of(house))
            one, two, three = Gallery(), Gallery(), Gallery()
            one.hang("p", house, look)
            two.hang("p", other, told_there(look))
            three.hang("p", other, told_there(by))
            self.assert_equal(True, one, two)
            self.assert_equal(alike(house, look, by), one, three)

    def test_all_else(self):
        for gallery in (Gallery(), gallery_of(p="a")):
            for other in (None, 0, 1, True, "", "p", (), [], {}, {"p": "a"}, ["p"], ((), {}), object(), Gallery):
                self.assert_equal(False, gallery, other)
            self.assert_equal(False, gallery, [gallery])

    def test_len(self):
        self.assertEqual([len(Gallery()), len(gallery_of(p="a")), len(gallery_of(p="a", q="a"))], [0, 1, 2])


class Many(Case):
    """Drawn deeds, with refused and undone ones, beside pictures that are each kept on their own, by spots."""

    def drawn_deed(self, rng, names):
        name, other = rng.choice(names), rng.choice(names)
        row = rng.choice(rows_to(2))
        return rng.choice((
            ("take", name), ("turn", name, rng.choice(TURNS)), ("paint", name, row, rng.choice("abcz")),
            ("set_in", name, row[:1], other, {"by": rng.choice(TURNS)}), ("undo",), ("undo",),
            ("join", rng.choice("pqrs"), [rng.choice(names) for _ in QUARTERS]),
            ("lay", rng.choice("pqrs"), name, other, {"bare": rng.choice("abc")}),
            ("recolour", name, {"a": rng.choice("abc"), "b": rng.choice("abc")}),
            ("hang", rng.choice("pqrs"), random_house(rng, 2, "abc", 0.5), (1, rng.choice(TURNS))),
        ))

    def done_alone(self, pictures, deed):
        """The pictures behind the deed, each a pair (house, sight); None of a refused one."""
        word, *rest = deed
        more = rest.pop() if isinstance(rest[-1], dict) and word in ("lay", "set_in") else {}
        names = {"join": rest[-1], "lay": rest[1:], "set_in": rest[::2], "hang": []}.get(word, rest[:1])
        if any([name not in pictures for name in names]):
            return None
        told = dict(pictures)
        if word == "take":
            del told[rest[0]]
        elif word == "hang":
            told[rest[0]] = tuple(rest[1:])
        elif word == "turn":
            house, sight = pictures[rest[0]]
            told[rest[0]] = (house, turned(sight, rest[1]))
        elif word == "paint":
            told[rest[0]] = painted(*pictures[rest[0]], *rest[1:])
        elif word == "recolour":
            told[rest[0]] = recoloured(*pictures[rest[0]], rest[1])
        else:
            told[rest[0]] = self.made_of_several([pictures[name] for name in names], word, rest, more)
        return told

    def made_of_several(self, parts, word, rest, more):
        house, sights = (), []
        for part_house, sight in parts:
            sights.append(numbered_on(sight, len(house)))
            house = beside(house, part_house)
        if word == "join":
            return joined(house, sights)
        if word == "lay":
            return laid(house, *sights, **more)
        return painted(house, sights[0], rest[1], turned(sights[1], more["by"]))

    def test_drawn_deeds(self):
        rng = Random(124)
        refused = undone = 0
        for _ in range(25):
            gallery, states = Gallery(), [{}]
            for _ in range(14):
                deed = self.drawn_deed(rng, "pqrs" if rng.random() < 0.2 else sorted(states[-1]) or "p")
                told = do(gallery, deed)
                if deed == ("undo",):
                    self.assertIs(told, len(states) > 1)
                    undone += told
                    states = states[:-1] or [{}]
                else:
                    pictures = self.done_alone(states[-1], deed)
                    self.assertEqual(told is None, pictures is not None)
                    refused += pictures is None
                    states += [] if pictures is None else [self.small(pictures)]
                self.assert_pictures(gallery, states)
        self.assertTrue(refused > 10 and undone > 20, (refused, undone))

    def small(self, pictures):
        told = {}
        for name, (house, sight) in pictures.items():
            new, sights = least(house, [sight])
            told[name] = (new, sights[0])
        return told

    def assert_pictures(self, gallery, states):
        pictures = states[-1]
        house, sights = (), []
        for name in sorted(pictures):
            sights.append(numbered_on(pictures[name][1], len(house)))
            house = beside(house, pictures[name][0])
        expected = least(house, sights)
        self.assertEqual(gallery.names(), sorted(pictures))
        self.assertEqual((gallery.house(), [gallery.sight(name) for name in gallery.names()]), expected)
        self.assertEqual(gallery.deeds(), len(states) - 1)

    def test_the_plain_sentences(self):
        """paint, set_in, turn and lay, at each spot, of pictures of a gallery that were made by other deeds."""
        rng = Random(125)
        for _ in range(20):
            gallery = gallery_of(p=(5, rng.choice(TURNS)), q=(0, rng.choice(TURNS)))
            for _ in range(4):
                row, by, spots = rng.choice(rows_to(2)), rng.choice(TURNS), rng.sample(SPOTS, 40)
                was = gallery.twin()
                gallery.set_in("p", row, "q", by=by)
                gallery.turn("q", 5)
                gallery.lay("r", "p", "q", bare="a")
                for spot in spots:
                    p, q, r = [colour_by_steps(gallery.house(), gallery.sight(name), spot) for name in "pqr"]
                    expected = colour_by_steps(was.house(), was.sight("p"), spot)
                    if begins_with(spot, row):
                        expected = colour_by_steps(was.house(), turned(was.sight("q"), by), rest_of(spot, len(row)))
                    self.assertEqual(p, expected)
                    seen = tuple([tuple([SHOWN[5][quarter] for quarter in part]) for part in spot])
                    self.assertEqual(q, colour_by_steps(was.house(), was.sight("q"), seen))
                    self.assertEqual(r, q if p == "a" else p)

    def test_8_names_24_panes_and_60_deeds(self):
        rng = Random(126)
        house = random_house(rng, 24, "abcdefghijkl", 0.8)
        gallery = Gallery()
        for at, name in enumerate("abcdefgh"):
            gallery.hang(name, house, (3 * at, at))
        for _ in range(13):
            gallery.paint("a", tuple([rng.choice(QUARTERS) for _ in range(60)]), "z")
            gallery.turn("b", 3)
            gallery.undo()
            gallery.undo()
            do(gallery, ("repaint", "c", (), rng.choice(QUARTERS), rng.choice("abc")))
            gallery.recolour("d", {"a": "b", "b": "a"})
            gallery.undo()
            gallery.set_in("e", (1,), "f", by=2)
            gallery.undo()
            gallery.hang("g", house, (rng.randrange(24), 3))
            gallery.take("h")
            gallery.undo()
        self.assertTrue(8 + 13 < gallery.deeds() < 8 + 13 + 14, gallery.deeds())
        self.assert_least(gallery)
        self.assertEqual(gallery.as_of(8).twin(), gallery.as_of(8))


class Interface(unittest.TestCase):
    def test_each_method_is_defined_in_the_class(self):
        self.assertEqual(Gallery.__module__, "wellpanes.gallery")
        for name in ("hang", "take", "turn", "paint", "set_in", "join", "lay", "recolour", "repaint", "undo", "names",
                     "house", "sight", "same", "likes", "deeds", "as_of", "twin", "log", "__init__", "__eq__",
                     "__len__"):
            self.assertIn(name, vars(Gallery))


if __name__ == "__main__":
    unittest.main()
