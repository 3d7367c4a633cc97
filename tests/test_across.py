"""Across the whole program: what one module tells of drawn houses agrees with what the others tell."""

import unittest
from fractions import Fraction
from importlib import import_module
from inspect import signature
from itertools import product
from random import Random

from pictures import (
    QUARTERS, TURNS, apart_at_edge, begins_with, colour_by_steps, looks_of, made_otherwise, random_house, rest_of,
    rows_to,
    sights_of, some_houses, some_spots)
from wellpanes.alike import alike, pairing, parted, spot_with, whole_of
from wellpanes.alikecheck import shows_alike, shows_parted
from wellpanes.cells import cell_row, counted, drawn
from wellpanes.changes import joined, painted, recoloured
from wellpanes.edgecheck import shows_fit, shows_misfit
from wellpanes.edges import fit_paper, fits, misfit, rows_that_fit
from wellpanes.errors import Even, NoName, NoPane
from wellpanes.fewestcheck import shows_fewest
from wellpanes.gallery import Gallery
from wellpanes.least import fewest, fewest_paper, least
from wellpanes.mixing import laid, mixed
from wellpanes.own import own_turns, turns_between
from wellpanes.panes import beside, numbered_on, panes_from, sight_at, turned
from wellpanes.sharecheck import shows_shares
from wellpanes.shares import parted_share, share_paper, shares
from wellpanes.spots import colour_at
from wellpanes.texts import house_in, house_text, spot_in, spot_text
from wellpanes.turns import back, behind, row_seen

LETTERS = "abcdefghijkl"
SPOTS = some_spots()
# The names by which arguments may be handed in, those behind * by names alone.
ARGUMENTS = {
    "turns": {
        "is_turn": "thing", "shown": "turn quarter", "behind": "one other", "back": "turn", "row_seen": "turn row",
        "yard_of": "turns"},
    "panes": {
        "is_house": "thing", "is_sight": "house thing", "turned": "sight turn", "quarter_of": "house sight quarter",
        "sight_at": "house sight row", "panes_from": "house sights", "beside": "house other",
        "numbered_on": "sight many",
        "colours_in": "house sights"},
    "spots": {
        "is_spot": "thing", "plain": "spot", "colour_at": "house sight spot", "spot_of": "x y", "point_of": "spot"},
    "cells": {"cell_row": "depth across down", "drawn": "house sight depth", "counted": "house sight depth"},
    "alike": {
        "alike": "house one other", "whole_of": "house sight", "spot_with": "house sight what",
        "parted": "house one other", "pairing": "house one other"},
    "alikecheck": {"shows_alike": "house one other thing", "shows_parted": "house one other thing"},
    "own": {"own_turns": "house sight", "turns_between": "house one other"},
    "least": {"least": "house sights", "fewest": "house sights", "fewest_paper": "house sights"},
    "fewestcheck": {"shows_fewest": "house sights many thing"},
    "shares": {"shares": "house sight", "parted_share": "house one other", "share_paper": "house sight"},
    "sharecheck": {"shows_shares": "house sight what thing"},
    "changes": {"painted": "house sight row what", "joined": "house four", "recoloured": "house sight colours"},
    "mixing": {"mixed": "house one other table", "laid": "house one other * bare"},
    "edges": {
        "fits": "house one other", "misfit": "house one other", "fit_paper": "house one other",
        "rows_that_fit": "house sights many"},
    "edgecheck": {"shows_fit": "house one other thing", "shows_misfit": "house one other thing"},
    "texts": {
        "house_text": "house", "house_in": "text", "sight_text": "sight", "spot_text": "spot", "spot_in": "text"},
    "desk": {"answers": "text"},
}
METHODS = {
    "__init__": "", "hang": "name house sight", "take": "name", "turn": "name by", "paint": "name row colour",
    "set_in": "name row other * by=0", "join": "name four", "lay": "name one other * bare", "recolour": "name colours",
    "repaint": "name row quarter colour", "undo": "", "names": "", "house": "", "sight": "name", "same": "one other",
    "likes": "", "deeds": "", "as_of": "many", "twin": "", "log": "", "__eq__": "other", "__len__": "",
}


def arguments_of(function):
    words, alone = [], False
    for name, parameter in signature(function).parameters.items():
        if parameter.kind == parameter.KEYWORD_ONLY and not alone:
            words.append("*")
            alone = True
        words.append(name if parameter.default is parameter.empty else f"{name}={parameter.default}")
    return " ".join(words)


def houses(many, seed):
    """Small houses of all kinds, and some of 24 panes and 12 colours."""
    rng = Random(seed)
    yield from some_houses(many, seed)
    for looks, colours in ((0.5, LETTERS), (0.85, "abc"), (0.97, LETTERS), (1, "a")):
        yield random_house(rng, 24, colours, looks)


class Across(unittest.TestCase):
    def sights_with(self, rng, house, many):
        return [rng.choice(sights_of(house)) for _ in range(many)]

    def test_alike_with_papers_and_spots(self):
        rng = Random(151)
        told = {True: 0, False: 0}
        for house in houses(120, 151):
            other_house, told_there = made_otherwise(rng, house)
            both = beside(house, other_house)
            one = rng.choice(looks_of(house))
            for other in (numbered_on(told_there(one), len(house)), rng.choice(looks_of(house)), "a"):
                paper, spot = pairing(both, one, other), parted(both, one, other)
                same = alike(both, one, other)
                told[same] += 1
                self.assertEqual((paper is not None, spot is None), (same, same))
                self.assertIs(shows_alike(both, one, other, paper), same)
                self.assertIs(shows_parted(both, one, other, spot), not same)
                self.assertEqual(spot is None or spot_in(spot_text(spot)) == spot, True)
                self.assertEqual(least(both, [one]) == least(both, [other]), same)
                if same:
                    self.assertEqual(shares(both, one), shares(both, other))
                    self.assertEqual(parted_share(both, one, other) if len(house) < 9 else (0, 1), (0, 1))
        self.assertTrue(min(told.values()) > 100, told)

    def test_a_spot_of_the_one_paper_parts_it_from_the_other(self):
        rng = Random(152)
        for house in houses(60, 152):
            for sight in self.sights_with(rng, house, 2):
                whole = whole_of(house, sight)
                for what in ["a", "b", None]:
                    spot = spot_with(house, sight, what)
                    if spot is not None:
                        self.assertEqual(colour_at(house, sight, spot), what)
                    if whole is not None:
                        self.assertIs(spot is None, what != whole)

    def test_least_and_its_paper(self):
        rng = Random(153)
        for house in houses(60, 153):
            sights = self.sights_with(rng, house, 3)
            new, told = least(house, sights)
            self.assertEqual(least(new, told), (new, told))
            other_house, told_there = made_otherwise(rng, house)
            self.assertEqual(least(other_house, [told_there(sight) for sight in sights]), (new, told))
            self.assertEqual(fewest(house, sights), len(new))
            self.assertIs(shows_fewest(house, sights, len(new), fewest_paper(house, sights)), True)
            self.assertIs(shows_fewest(new, told, len(new), fewest_paper(house, sights)), True)
            self.assertIs(shows_fewest(house, sights, len(new) + 1, fewest_paper(house, sights)), False)
            self.assertEqual(panes_from(new, told), list(range(len(new))))
            both = beside(house, new)
            for one, other in zip(sights, told):
                self.assertIs(alike(both, one, numbered_on(other, len(house))), True)
            for one, other in product(range(min(len(new), 4)), repeat=2):
                self.assertEqual(turns_between(new, (one, 0), (other, 0)) != [], one == other)

    def test_own_turns(self):
        rng = Random(154)
        for house in houses(40, 154):
            one, other = self.sights_with(rng, house, 2)
            turns = own_turns(house, one)
            self.assertEqual(turns, [turn for turn in TURNS if parted(house, turned(one, turn), one) is None])
            self.assertEqual({behind(first, second) for first, second in product(turns, turns)}, set(turns))
            between = turns_between(house, one, other)
            self.assertEqual(turns_between(house, other, one), sorted([back(turn) for turn in between]))
            new, (sight,) = least(house, [one])
            self.assertEqual(own_turns(new, sight), turns)

    def test_shares_their_paper_and_cells(self):
        rng = Random(155)
        for house in houses(60, 155):
            sight = rng.choice(sights_of(house))
            told, paper = shares(house, sight), share_paper(house, sight)
            self.assertIs(shows_shares(house, sight, told, paper), True)
            self.assertEqual(sum([Fraction(*share) for _, share in told]), 1)
            worth = {what: Fraction(*share) for what, share in told}
            for depth in (0, 2, 4, 200):
                cells = dict(counted(house, sight, depth))
                left = cells.pop(None, 0)
                self.assertEqual(sum(cells.values()) + left, 4 ** depth)
                for what in set(worth) | set(cells):
                    many = 4 ** depth * worth.get(what, 0)
                    self.assertTrue(cells.get(what, 0) <= many <= cells.get(what, 0) + left)
            grid = drawn(house, sight, 4)
            self.assertEqual(
                sorted([(cell or "", sum(grid, []).count(cell)) for cell in set(sum(grid, []))]),
                [(what or "", number) for what, number in counted(house, sight, 4)])
            across, down = rng.randrange(16), rng.randrange(16)
            self.assertEqual(grid[down][across], whole_of(house, sight_at(house, sight, cell_row(4, across, down))))

    def test_shares_stay_the_same_by_what_is_the_same(self):
        rng = Random(156)
        for house in houses(30, 156):
            sight = rng.choice(looks_of(house))
            told = shares(house, sight)
            for turn in TURNS:
                self.assertEqual(shares(house, turned(sight, turn)), told)
            new, seen = joined(house, [turned(sight, turn) for turn in (1, 2, 6, 7)])
            self.assertEqual(shares(new, seen), told)
            new, seen = recoloured(house, sight, {"a": "b", "b": "a"})
            exchanged = {"a": "b", "b": "a"}
            self.assertEqual(dict(shares(new, seen)), {exchanged.get(what, what): share for what, share in told})

    def test_what_is_made_has_at_each_spot_what_is_said(self):
        rng = Random(157)
        table = {pair: rng.choice("pqrs") for pair in product(LETTERS, repeat=2)}
        for house in houses(40, 157):
            one, other, third = [rng.choice(looks_of(house) + ["a"]) for _ in range(3)]
            row, by = rng.choice(rows_to(3)), rng.choice(TURNS)
            made = [
                painted(house, one, row, other), joined(house, [one, other, third, one]), (house, turned(one, by)),
                laid(house, one, other, bare="a"), recoloured(house, one, {"a": "b", "b": "c", "c": "a"}),
                mixed(house, one, other, table) if len(house) < 9 else (house, one)]
            for spot in rng.sample(SPOTS, 12) + [(row, (0, 1))]:
                first, second = colour_by_steps(house, one, spot), colour_by_steps(house, other, spot)
                quarter = (spot[0] + spot[1])[0]
                expected = [
                    colour_at(house, other, rest_of(spot, len(row))) if begins_with(spot, row) else first,
                    colour_at(house, [one, other, third, one][quarter], rest_of(spot, 1)),
                    colour_at(house, one, (row_seen(by, spot[0]), row_seen(by, spot[1]))),
                    second if first == "a" else first, {"a": "b", "b": "c", "c": "a"}.get(first, first),
                    first if len(house) > 8 else None if None in (first, second) else table[(first, second)]]
                self.assertEqual([colour_at(new, sight, spot) for new, sight in made], expected)

    def test_what_is_made_is_told_again_by_its_least_house(self):
        rng = Random(158)
        for house in some_houses(40, 158):
            one, other = rng.choice(looks_of(house)), rng.choice(looks_of(house))
            # Laid over itself a picture stays; painted with what is there, too; joined of its quarters as well.
            row = rng.choice(rows_to(2))
            for new, sight in (
                laid(house, one, one, bare="a"), painted(house, one, row, sight_at(house, one, row)),
                joined(house, [sight_at(house, one, (quarter,)) for quarter in QUARTERS]), recoloured(house, one, {}),
            ):
                self.assertEqual(least(new, [sight]), least(house, [one]))
                self.assertIs(fits(new, sight, turned(one, 4)), True)
            share = parted_share(house, one, other)
            table = {(a, b): "same" if a == b else "unlike" for a, b in product("abc", repeat=2)}
            unlike = dict(shares(*mixed(house, one, other, table))).get("unlike", (0, 1))
            self.assertTrue(Fraction(*unlike) <= Fraction(*share))

    def test_edges(self):
        rng = Random(159)
        told = {True: 0, False: 0}
        for house in houses(60, 159):
            one, other = rng.choice(looks_of(house)), rng.choice(looks_of(house) + ["a"])
            for right, left in ((one, other), (one, turned(one, 4)), (other, one)):
                paper, apart, fit = fit_paper(house, right, left), misfit(house, right, left), fits(house, right, left)
                told[fit] += 1
                self.assertEqual((paper is not None, apart is None), (fit, fit))
                self.assertIs(shows_fit(house, right, left, paper), fit)
                self.assertIs(shows_misfit(house, right, left, apart), not fit)
                self.assertTrue(fit or apart_at_edge(house, right, left, *apart))
                self.assertEqual(rows_that_fit(house, [right, left], 2).count((0, 1)), int(fit))
                # Told by the pictures, not by how they were made.
                new, sights = least(house, [right, left])
                self.assertIs(fits(new, sights[0], sights[1]), fit)
        self.assertTrue(min(told.values()) > 60, told)

    def test_a_gallery_behind_any_deeds(self):
        rng = Random(160)
        refused = 0
        for house in list(some_houses(25, 160)) + [random_house(rng, 20, LETTERS, 0.8)]:
            gallery = Gallery()
            for name in "pqr":
                gallery.hang(name, house, rng.choice(looks_of(house)))
            for _ in range(12):
                refused += self.do_one(rng, gallery, house)
                self.assert_least(gallery)
            house, sights = gallery.house(), [gallery.sight(name) for name in gallery.names()]
            self.assertIs(shows_fewest(house, sights, len(house), fewest_paper(house, sights)), True)
            self.assertEqual(gallery.twin(), gallery)
        self.assertTrue(refused > 40, refused)

    def do_one(self, rng, gallery, house):
        """Does one deed that is drawn; tells whether it's refused."""
        name, other, row = rng.choice("pqrs"), rng.choice("pqrs"), rng.choice(rows_to(2))
        deeds = [
            lambda: gallery.turn(name, rng.choice(TURNS)), lambda: gallery.paint(name, row, rng.choice("abc")),
            lambda: gallery.set_in(name, row[:1], other, by=rng.choice(TURNS)), gallery.undo,
            lambda: gallery.join(name, [name, other, name, name]), lambda: gallery.recolour(name, {"a": "b", "b": "a"}),
            lambda: gallery.repaint(name, row, rng.choice(QUARTERS), rng.choice("abc")), lambda: gallery.take("s"),
            lambda: gallery.hang("s", house, rng.choice(looks_of(house))),
            lambda: gallery.lay("s", name, other, bare="a") if len(house) < 9 else None]
        try:
            rng.choice(deeds)()
        except (NoName, NoPane, Even):
            return True
        return False

    def assert_least(self, gallery):
        house, names = gallery.house(), gallery.names()
        sights = [gallery.sight(name) for name in names]
        self.assertEqual(least(house, sights), (house, sights))
        self.assertEqual(house_in(house_text(house)), house)
        likes = [[other for other in names if turns_between(house, gallery.sight(name), gallery.sight(other))]
                 for name in names]
        self.assertEqual(gallery.likes(), [group for at, group in enumerate(likes) if group[0] == names[at]])

    def test_what_was_told_may_be_handed_in_again(self):
        rng = Random(161)
        house = random_house(rng, 8, "abc", 0.8)
        house, sight = laid(house, (0, 0), (1, 3), bare="b")
        for times in range(3):
            house, sight = painted(house, sight, (1, times), (2, times))
            house, sight = laid(house, sight, "a", bare="b")
            house, sight = joined(house, [sight, "a", turned(sight, 5), (3, 0)])
            house, sight = mixed(house, sight, "c", {(what, "c"): what for what in "abc"})
            self.assertIs(shows_shares(house, sight, shares(house, sight), share_paper(house, sight)), True)
            self.assertEqual(house_in(house_text(house)), house)
        self.assertTrue(len(house) > 24)
        new, sights = least(house, [sight])
        for spot in SPOTS:
            self.assertEqual(colour_at(house, sight, spot), colour_at(new, sights[0], spot))


class Interface(unittest.TestCase):
    def test_each_is_defined_in_its_file_with_its_arguments(self):
        for name, functions in ARGUMENTS.items():
            module = import_module(f"wellpanes.{name}")
            for function, arguments in functions.items():
                self.assertEqual(vars(module)[function].__module__, f"wellpanes.{name}")
                self.assertEqual(arguments_of(vars(module)[function]), arguments, function)

    def test_each_method_is_defined_in_the_class_with_its_arguments(self):
        for method, arguments in METHODS.items():
            self.assertEqual(arguments_of(vars(Gallery)[method]), f"self {arguments}".strip(), method)

    def test_no_two_refusals_are_of_one_class(self):
        refusals = [vars(import_module("wellpanes.errors"))[name] for name in (
            "NoName", "NoDeed", "NoPane", "NoMix", "BadRow", "Even")]
        for one, other in product(refusals, repeat=2):
            self.assertIs(issubclass(one, other), one is other)


if __name__ == "__main__":
    unittest.main()
