"""may and way_to of a desk."""

import itertools
import unittest

from oddlines.deeds import deed_error, led
from oddlines.desks import Desk
from oddlines.errors import Apart, BadWeb, OddError, Unfit
from oddlines.joining import way
from oddlines.marks import mark
from oddlines.webs import web_error
from deskcase import NO_WEBS, DeskCase, redoable, shown
from pairs import drawn_pairs, joined_pairs, led_by, told_mark
from support import (
    EMPTY, OTHER_STAR, PAIR, PATH, SQUARE, STAR, all_webs, empty_web, full_web, nested, sample_webs,
    strings_of_all_kinds, told_numbers, values_of_all_kinds,
)


class May(DeskCase):

    def test_example(self):
        d = Desk(PAIR)
        d.draw(2, 3)
        d.exchange(0, 1, 2, 3)
        told = [d.may(0, 1), d.may(2, 0), Desk(STAR).may(0, 1), Desk(STAR).may(1, 2), Desk(SQUARE).may(0, 1)]
        self.assertSame(told, ["draw", "strike", None, "draw", "strike"])
        self.assertError(Unfit(), d.may, 0, 4)

    def check(self, web):
        """For all pairs, either way round, what is told is the deed that can be done."""
        desk, row = Desk(web), told_numbers(web)
        for a, b in itertools.permutations(range(web[0]), 2):
            pair = (min(a, b), max(a, b))
            wanted = None
            if row[a] == row[b]:
                wanted = "strike" if pair in web[1] else "draw"
            self.assertSame(desk.may(a, b), wanted)
            for word in ("draw", "strike"):
                self.assertIs(deed_error(web, (word, *pair)) is None, wanted == word)
        self.assertSame((desk.web, desk.version), (web, 0))

    def test_all_webs_of_few_people_and_larger_ones(self):
        for many in (2, 3, 4):
            for web in all_webs(many):
                self.check(web)
        for many in range(5, 11):
            for web in sample_webs(many, 8):
                self.check(web)

    def test_alike_and_beyond(self):
        for many in range(2, 11):
            for web in (empty_web(many), full_web(many)):
                desk = Desk(web)
                for a in range(-2, many + 2):
                    for b in range(-2, many + 2):
                        if a == b or not (0 <= a < many and 0 <= b < many):
                            self.assertError(Unfit(), desk.may, a, b)
                        else:
                            self.assertSame(desk.may(a, b), "strike" if web[1] else "draw")

    def test_other_things(self):
        desk = Desk(SQUARE)
        others = [None, True, False, "0", "1", (0,), [0], {}, (0, 1), 10 ** 399, -(10 ** 399), nested(9), Desk(SQUARE)]
        for value, person in itertools.product(others, [*others, 0, 1, 2, 3]):
            self.assertError(Unfit(), desk.may, value, person)
            self.assertError(Unfit(), desk.may, person, value)
        self.assertSame(shown(desk), shown(Desk(SQUARE)))


class WayTo(DeskCase):

    def test_example(self):
        d = Desk(PAIR)
        d.draw(2, 3)
        d.exchange(0, 1, 2, 3)
        self.assertSame(led(d.web, d.way_to(EMPTY)), EMPTY)
        self.assertSame(d.version, 2)
        self.assertError(Apart(("holder", 3)), Desk(STAR).way_to, OTHER_STAR)
        self.assertError(Apart(("odd", 1)), Desk(STAR).way_to, PAIR)

    def check(self, one, other):
        desk, found = Desk(one), told_mark(one, other)
        if found is None:
            self.assertSame(led_by(self, one, desk.way_to(other)), other)
            self.assertSame(desk.way_to(other), way(one, other))
        else:
            self.assertError(Apart(found), desk.way_to, other)
        self.assertSame((desk.web, desk.version, desk.log), (one, 0, ()))

    def test_all_pairs_of_webs_of_three_people(self):
        for one, other in itertools.product(all_webs(3), repeat=2):
            self.check(one, other)

    def test_pairs_that_are_joined_and_others(self):
        for one, other in drawn_pairs()[::8]:
            self.check(one, other)
        for many in range(2, 11):
            for one, other in joined_pairs(many, 1)[::5]:
                self.check(one, other)

    def test_unlike_many(self):
        for many, other_many in itertools.permutations(range(2, 11), 2):
            self.assertError(Apart("many"), Desk(empty_web(many)).way_to, full_web(other_many))

    def test_from_the_present_web_and_not_done(self):
        desk = Desk(SQUARE)
        desk.draw(0, 2)
        desk.draw(1, 3)
        desk.undo()
        before = shown(desk), redoable(desk)
        for web in (SQUARE, PAIR, EMPTY, full_web(4), desk.web):
            self.assertSame(led_by(self, desk.web, desk.way_to(web)), web)
        self.assertError(Apart(mark(SQUARE, STAR)), desk.way_to, STAR)
        self.assertError(BadWeb("form"), desk.way_to, None)
        self.assertEqual((shown(desk), redoable(desk)), before)

    def test_values_that_are_no_webs(self):
        for desk in (Desk(SQUARE), Desk(STAR), Desk(PATH)):
            for value in NO_WEBS + values_of_all_kinds() + strings_of_all_kinds() + [desk, desk.log, nested(3)]:
                error = web_error(value)
                if error is not None:
                    self.assertError(BadWeb(error), desk.way_to, value)
                else:
                    self.check(desk.web, value)

    def test_again(self):
        desk = Desk(PAIR)
        for _ in range(2):
            self.assertSame(desk.way_to(SQUARE), Desk(PAIR).way_to(SQUARE))
            hash(desk.way_to(SQUARE))
            with self.assertRaises(OddError):
                desk.way_to((True, ()))


if __name__ == "__main__":
    unittest.main()
