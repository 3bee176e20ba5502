"""Desks that are equal or unlike, desk_behind, and what holds of all desks."""

import copy
import random
import unittest

from oddlines.classes import holders
from oddlines.deeds import back, deed_error, done, led
from oddlines.desks import Desk, desk_behind
from oddlines.errors import BadLog, BadWeb, NothingToRedo, NoVersion, OddError, Refused, Unfit
from oddlines.joining import paper
from oddlines.marks import joined
from oddlines.oddsets import odd_set
from oddlines.webs import numbers, web_error
from deskcase import NO_WEBS, DeskCase, call, shown
from pairs import deeds_in
from support import (
    EMPTY, OTHER_STAR, PAIR, SQUARE, STAR, full_web, sample_webs, strings_of_all_kinds, values_of_all_kinds,
)


class Equal(DeskCase):

    def test_equal_and_unlike(self):
        one, other = Desk(SQUARE), Desk(SQUARE)
        for wanted in (True, False, True):
            self.assertIs(one == other, wanted)
            self.assertIs(other == one, wanted)
            self.assertIs(one != other, not wanted)
            self.assertIs(other != one, not wanted)
            # At first one of both is edited, then that is taken back.
            if wanted:
                one.draw(0, 2)
            else:
                one.undo()
        self.assertIs(Desk(STAR) == Desk(OTHER_STAR), False)
        self.assertIs(Desk(STAR) != Desk(OTHER_STAR), True)
        self.assertIs(Desk((2, ())) == Desk((3, ())), False)

    def test_the_present_web_alone_counts(self):
        one, other = Desk(PAIR), Desk(EMPTY)
        one.strike(0, 1)
        self.assertIs(one == other, True)
        one.draw(2, 3)
        one.undo()
        self.assertIs(one == other, True)
        self.assertIs(one == one.copy(), True)

    def test_other_things(self):
        desk = Desk(SQUARE)
        for value in values_of_all_kinds() + strings_of_all_kinds() + [SQUARE, list(SQUARE), (desk,), object(), Desk]:
            self.assertIs(desk == value, False)
            self.assertIs(value == desk, False)
            self.assertIs(desk != value, True)
            self.assertIs(value != desk, True)

    def test_a_desk_handed_in_as_a_value(self):
        desk = Desk(SQUARE)
        self.assertSame(web_error(desk), "form")
        self.assertSame(deed_error(SQUARE, ("draw", desk, 2)), "form")
        self.assertError(BadWeb("form"), Desk, desk)
        self.assertError(BadLog(0), desk_behind, SQUARE, desk)
        self.assertError(BadLog(0), desk_behind, SQUARE, (desk,))


class DeskBehind(DeskCase):

    def test_logs_of_desks(self):
        for many in range(2, 11):
            for seed, web in enumerate(sample_webs(many, 4)):
                chance = random.Random(seed)
                desk = Desk(web)
                for _ in range(8):
                    call(desk, chance.choice(deeds_in(desk.web)))
                other = desk_behind(web, desk.log)
                self.assertIs(type(other), Desk)
                self.assertIs(other == desk, True)
                self.assertEqual(shown(other), shown(desk))
                self.assertError(NothingToRedo(), other.redo)
                while desk.version:
                    self.assertSame(other.undo(), desk.undo())
                    self.assertSame(other.web, desk.web)

    def test_no_tuples(self):
        for log in ([], [("draw", 0, 2)], None, "none", "", 0, True, {}, {0: ("draw", 0, 2)}):
            self.assertError(BadLog(0), desk_behind, SQUARE, log)
        for log in values_of_all_kinds() + strings_of_all_kinds():
            if type(log) is not tuple:
                self.assertError(BadLog(0), desk_behind, SQUARE, log)

    def test_items_that_are_no_deeds_or_cannot_be_done(self):
        good = (("draw", 0, 2), ("draw", 1, 3), ("strike", 0, 1), ("strike", 2, 3))
        self.assertSame(desk_behind(SQUARE, good).version, 4)
        no_deeds = [None, ["draw", 0, 2], ("draw", 2, 0), ("draw", 0, 4), ("draw", True, 2), "draw 0 2", (), 3, SQUARE]
        for place in range(5):
            for wrong in no_deeds:
                self.assertError(BadLog(place), desk_behind, SQUARE, good[:place] + (wrong,) + good[place:])
                self.assertError(BadLog(place), desk_behind, SQUARE, good[:place] + (wrong, None))
            for deed in good[:place]:
                self.assertError(BadLog(place), desk_behind, SQUARE, good[:place] + (deed,) + good[place:])
        self.assertError(BadLog(0), desk_behind, STAR, (("strike", 0, 1), None))

    def test_values_of_all_kinds(self):
        for value in values_of_all_kinds() + strings_of_all_kinds():
            self.assertError(BadLog(0), desk_behind, SQUARE, (value,))
            self.assertError(BadLog(1), desk_behind, SQUARE, (("draw", 0, 2), value))
            if value != () and type(value) is tuple:
                self.assertError(BadLog(0), desk_behind, SQUARE, value)

    def test_too_long(self):
        draw, strike = ("draw", 0, 2), ("strike", 0, 2)
        self.assertSame(desk_behind(SQUARE, (draw, strike) * 20).version, 40)
        self.assertError(BadLog(40), desk_behind, SQUARE, (draw, strike) * 20 + (draw,))
        self.assertError(BadLog(40), desk_behind, SQUARE, (draw, strike) * 20 + (None,))
        self.assertError(BadLog(40), desk_behind, SQUARE, (draw, strike) * 10000)
        self.assertError(BadLog(39), desk_behind, SQUARE, (draw, strike) * 19 + (draw, draw, None))

    def test_ways_and_long_papers(self):
        word, some = paper(EMPTY, full_web(4))
        self.assertSame(desk_behind(EMPTY, some).web, full_web(4))
        self.assertError(BadLog(0), desk_behind, EMPTY, (word, some))

    def test_the_log_is_kept_as_a_tuple_of_deeds(self):
        log = (("draw", 0, 2), ("exchange", 0, 1, 2, 3))
        desk = desk_behind(SQUARE, log[:1])
        self.assertSame(desk.log, log[:1])
        self.assertSame(desk_behind(SQUARE, ()).log, ())
        self.assertSame(desk_behind(SQUARE, ()).web, SQUARE)


class WhatHolds(DeskCase):

    def test_all_edits(self):
        for many in range(2, 11):
            for seed, web in enumerate(sample_webs(many, 3)):
                chance = random.Random(seed)
                desk = Desk(web)
                told = (desk.odd_set, desk.holders)
                self.assertSame(told, (odd_set(web), holders(web)))
                for _ in range(12):
                    call(desk, chance.choice(deeds_in(desk.web)))
                    self.assertSame((desk.odd_set, desk.holders), told)
                    self.assertSame(desk.numbers, numbers(desk.web))
                    self.assertIs(joined(web, desk.web), True)
                    self.assertSame(led(web, desk.log), desk.web)
                    last = desk.log[-1]
                    behind = done(desk.web, back(last))
                    desk.undo()
                    self.assertSame(desk.web, behind)
                    if chance.random() < 0.8:
                        desk.redo()
                self.assertIs(desk_behind(web, desk.log) == desk, True)


class Calls(DeskCase):

    def test_by_name(self):
        desk = Desk(web=SQUARE)
        self.assertSame(desk.draw(a=0, b=2), 1)
        self.assertSame(desk.strike(b=2, a=0), 2)
        self.assertSame(desk.exchange(e=3, c=2, b=1, a=0), 3)
        self.assertSame(desk.web, done(SQUARE, ("exchange", 0, 1, 2, 3)))
        self.assertSame(desk.at(version=0), SQUARE)
        self.assertSame(desk.may(b=0, a=2), "strike")
        self.assertSame(led(desk.web, desk.way_to(web=EMPTY)), EMPTY)
        self.assertSame(desk_behind(log=desk.log, web=SQUARE).web, desk.web)
        self.assertError(NoVersion(4), lambda: desk.at(version=4))
        self.assertError(BadLog(0), lambda: desk_behind(log=[], web=SQUARE))
        self.assertError(BadWeb("form"), lambda: Desk(web=None))

    def test_again(self):
        for _ in range(3):
            self.assertError(Unfit(), Desk(SQUARE).draw, True, 2)
            self.assertError(Refused(("draw", 1, 2)), Desk(SQUARE).draw, 1, 2)
            self.assertSame(Desk(SQUARE).draw(0, 2), 1)
            self.assertError(BadLog(1), desk_behind, PAIR, (("draw", 2, 3), ("draw", 2, 3)))

    def test_what_is_returned_does_not_change(self):
        desk = Desk(SQUARE)
        desk.draw(0, 2)
        told = (desk.web, desk.numbers, desk.odd_set, desk.holders, desk.version, desk.log, desk.at(0))
        kept = copy.deepcopy(told)
        hash(told)
        desk.draw(1, 3)
        desk.undo()
        desk.undo()
        desk.strike(0, 1)
        self.assertSame(told, kept)

    def test_what_is_handed_in_stays(self):
        desk = Desk(SQUARE)
        for value in values_of_all_kinds() + NO_WEBS:
            before = copy.deepcopy(value)
            for one in (
                lambda: Desk(value), lambda: desk_behind(value, ()), lambda: desk_behind(SQUARE, value),
                lambda: desk.draw(value, 1), lambda: desk.exchange(value, value, value, value),
                lambda: desk.at(value), lambda: desk.may(value, 1), lambda: desk.way_to(value),
            ):
                try:
                    one()
                except OddError:
                    pass
            self.assertSame(value, before)
        self.assertSame((desk.web, desk.log), (SQUARE, ()))

    def test_two_desks_of_one_web_are_edited_apart(self):
        one, other = Desk(SQUARE), Desk(SQUARE)
        one.draw(0, 2)
        self.assertSame((other.web, other.version), (SQUARE, 0))


if __name__ == "__main__":
    unittest.main()
