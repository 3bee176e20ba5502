"""Desk: a web that is edited, its versions, and copies."""

import random
import unittest

from oddlines.bounds import MAX_EDITS
from oddlines.deeds import deed_error, done
from oddlines.desks import Desk, desk_behind
from oddlines.errors import BadLog, BadWeb, NothingToRedo, NothingToUndo, NoVersion, Refused, TooManyEdits, Unfit
from oddlines.webs import web_error
from deskcase import NO_WEBS, DeskCase, any_pair, call, full_desk, redoable, shown
from pairs import deeds_in
from support import (
    EMPTY, OTHER_STAR, PAIR, PATH, SQUARE, STAR, full_web, nested, sample_webs, strings_of_all_kinds,
    told_done, values_of_all_kinds,
)


class Examples(DeskCase):

    def test_all(self):
        d = Desk(PAIR)
        self.assertSame(
            [d.numbers, d.odd_set, d.holders, d.draw(2, 3), d.exchange(0, 1, 2, 3), d.web, d.draw(0, 1), d.numbers],
            [(1, 1, 0, 0), (), (), 1, 2, (4, ((0, 2), (1, 3))), 3, (2, 2, 1, 1)],
        )
        self.assertSame(d.version, 3)
        self.assertSame([d.undo(), d.undo(), d.web, d.redo()], [2, 1, (4, ((0, 1), (2, 3))), 2])
        self.assertSame((d.at(0), d.log), (PAIR, (("draw", 2, 3), ("exchange", 0, 1, 2, 3))))
        self.assertSame([desk_behind(PAIR, d.log) == d, d == Desk(d.web), d == PAIR], [True, True, False])
        self.assertError(Unfit(), d.draw, 1, 0)
        self.assertError(Refused(("strike", 0, 1)), d.strike, 0, 1)
        self.assertError(NoVersion(3), d.at, 3)
        self.assertError(BadLog(1), desk_behind, PAIR, (("draw", 2, 3), ("draw", 2, 3)))
        self.assertError(BadWeb(("line", 0)), Desk, (4, ((1, 0),)))


class NewDesks(DeskCase):

    def test_webs(self):
        for many in range(2, 11):
            for web in sample_webs(many, 6):
                desk = Desk(web)
                self.check(desk, [web], [])
                self.assertError(NothingToUndo(), desk.undo)
                self.assertError(NothingToRedo(), desk.redo)

    def test_no_webs(self):
        for value in NO_WEBS + values_of_all_kinds() + strings_of_all_kinds() + [Desk(SQUARE), (Desk(PAIR), ())]:
            error = web_error(value)
            if error is not None:
                self.assertError(BadWeb(error), Desk, value)
                self.assertError(BadWeb(error), desk_behind, value, ())
                self.assertError(BadWeb(error), desk_behind, value, None)
                self.assertError(BadWeb(error), desk_behind, value, (None,))


class Edits(DeskCase):

    def test_rows_of_edits_beside_a_list_of_webs(self):
        for many in range(2, 11):
            chance = random.Random(many)
            for web in sample_webs(many, 3):
                desk, webs, log, ahead = Desk(web), [web], [], []
                for _ in range(60):
                    word = chance.choice(("do", "do", "do", "undo", "redo", "wrong"))
                    if word == "undo" and log:
                        ahead.append((webs.pop(), log.pop()))
                        self.assertSame(desk.undo(), len(log))
                    elif word == "redo" and ahead:
                        one, deed = ahead.pop()
                        webs.append(one)
                        log.append(deed)
                        self.assertSame(desk.redo(), len(log))
                    elif word == "undo":
                        self.assertError(NothingToUndo(), desk.undo)
                    elif word == "redo":
                        self.assertError(NothingToRedo(), desk.redo)
                    elif word == "wrong" and log:
                        # The last deed cannot be done again: its line is there, or gone.
                        self.assertError(Refused(log[-1]), call, desk, log[-1])
                    else:
                        deed = chance.choice(deeds_in(webs[-1]))
                        if len(log) == 40:
                            self.assertError(TooManyEdits(), call, desk, deed)
                        else:
                            webs.append(told_done(webs[-1], deed))
                            log.append(deed)
                            ahead = []
                            self.assertSame(call(desk, deed), len(log))
                self.check(desk, webs, log)
                self.assertSame(redoable(desk), [one for one, _ in reversed(ahead)])

    def test_forty_edits_and_one_more(self):
        self.assertEqual(MAX_EDITS, 40)
        for web in (SQUARE, PATH, STAR, full_web(10)):
            desk = full_desk(web)
            self.assertSame(desk.version, 40)
            before = shown(desk)
            self.assertError(TooManyEdits(), call, desk, any_pair(desk.web))
            self.assertEqual(shown(desk), before)
            self.assertSame(desk.undo(), 39)
            self.assertError(Refused(desk.log[-1]), call, desk, desk.log[-1])
            self.assertSame(desk.redo(), 40)
            self.assertEqual(shown(desk), before)
            self.assertError(NothingToRedo(), desk.redo)
            self.assertSame(desk.undo(), 39)
            self.assertSame(call(desk, any_pair(desk.web)), 40)
            self.assertError(TooManyEdits(), call, desk, any_pair(desk.web))
            for version in range(39, -1, -1):
                self.assertSame(desk.undo(), version)
            self.assertSame(desk.web, web)
            for version in range(1, 41):
                self.assertSame(desk.redo(), version)

    def test_the_order_of_errors(self):
        desk = full_desk(SQUARE)
        before = shown(desk)
        barred = desk.log[-1]
        self.assertError(Unfit(), desk.draw, 1, 0)
        self.assertError(Unfit(), desk.strike, 0, 4)
        self.assertError(Unfit(), desk.exchange, 0, 1, 2, 2)
        self.assertError(Refused(barred), call, desk, barred)
        self.assertError(TooManyEdits(), call, desk, any_pair(desk.web))
        self.assertEqual(shown(desk), before)

    def test_an_edit_forgets_what_was_taken_back(self):
        desk = Desk(SQUARE)
        desk.draw(0, 2)
        desk.draw(1, 3)
        desk.undo()
        desk.undo()
        self.assertSame(desk.strike(0, 1), 1)
        self.assertError(NothingToRedo(), desk.redo)
        self.assertSame(desk.log, (("strike", 0, 1),))

    def test_a_refused_edit_keeps_what_was_taken_back(self):
        desk = Desk(SQUARE)
        desk.draw(0, 2)
        desk.draw(1, 3)
        desk.undo()
        desk.undo()
        self.assertError(Refused(("draw", 0, 1)), desk.draw, 0, 1)
        self.assertError(Unfit(), desk.draw, 0, 0)
        self.assertError(NothingToUndo(), desk.undo)
        self.assertSame([desk.redo(), desk.redo()], [1, 2])
        self.assertError(NothingToRedo(), desk.redo)
        self.assertSame(desk.web, full_web(4))

    def test_all_deeds_of_four_people(self):
        for web in (SQUARE, STAR, PAIR, EMPTY, full_web(4), OTHER_STAR):
            for word, size in (("draw", 2), ("strike", 2), ("exchange", 4)):
                for number in range(6 ** size):
                    people = [number // 6 ** place % 6 - 1 for place in range(size)]
                    deed = (word, *people)
                    desk, told = Desk(web), deed_error(web, deed)
                    if told is None:
                        self.assertSame(call(desk, deed), 1)
                        self.assertSame((desk.web, desk.log), (done(web, deed), (deed,)))
                    else:
                        self.assertError(Unfit() if told == "form" else Refused(deed), call, desk, deed)
                        self.assertSame((desk.web, desk.log), (web, ()))

    def test_values_of_all_kinds(self):
        values = values_of_all_kinds() + strings_of_all_kinds() + [nested(3), Desk(SQUARE), SQUARE, True, False, -1, 4]
        desk = Desk(SQUARE)
        desk.draw(0, 2)
        desk.draw(1, 3)
        desk.undo()
        before = shown(desk), redoable(desk)
        for value in values:
            if type(value) is int and 0 <= value < 4:
                continue
            for person in (0, 1, 3):
                self.assertError(Unfit(), desk.draw, value, person)
                self.assertError(Unfit(), desk.draw, person, value)
                self.assertError(Unfit(), desk.strike, value, person)
                self.assertError(Unfit(), desk.strike, person, value)
                self.assertError(Unfit(), desk.may, value, person)
                self.assertError(Unfit(), desk.may, person, value)
                people = [(person + step) % 4 for step in range(4)]
                for place in range(4):
                    self.assertError(Unfit(), desk.exchange, *people[:place], value, *people[place + 1:])
            self.assertError(Unfit(), desk.draw, value, value)
            self.assertError(Unfit(), desk.may, value, value)
            self.assertError(NoVersion(value), desk.at, value)
        self.assertEqual((shown(desk), redoable(desk)), before)

    def test_errors_keep_what_was_handed_in(self):
        desk = Desk(SQUARE)
        for value in ([1], {1: [2]}, nested(4)):
            with self.assertRaises(NoVersion) as caught:
                desk.at(value)
            self.assertIs(caught.exception.given, value)
        self.assertError(Refused(("exchange", 0, 1, 3, 2)), desk.exchange, 0, 1, 3, 2)


class Versions(DeskCase):

    def test_at(self):
        desk, webs = Desk(PATH), [PATH]
        for _ in range(10):
            call(desk, any_pair(desk.web))
            webs.append(desk.web)
        self.assertSame([desk.at(version) for version in range(11)], webs)
        for version in (-1, 11, 12, 40, True, False, "0", None, (0,), [0], 10 ** 399):
            self.assertError(NoVersion(version), desk.at, version)
        for _ in range(4):
            desk.undo()
        self.assertSame([desk.at(version) for version in range(7)], webs[:7])
        for version in (7, 8, 10):
            self.assertError(NoVersion(version), desk.at, version)
        desk.redo()
        self.assertSame(desk.at(7), webs[7])

    def test_true_is_no_version(self):
        desk = Desk(SQUARE)
        desk.draw(0, 2)
        self.assertSame(desk.at(1), desk.web)
        self.assertError(NoVersion(True), desk.at, True)
        self.assertError(NoVersion(False), desk.at, False)


class Copies(DeskCase):

    def test_copies_are_edited_apart(self):
        desk = Desk(SQUARE)
        desk.draw(0, 2)
        desk.draw(1, 3)
        desk.undo()
        before = shown(desk), redoable(desk)
        twin = desk.copy()
        self.assertIs(type(twin), Desk)
        self.assertEqual((shown(twin), redoable(twin)), before)
        twin.redo()
        twin.strike(0, 1)
        self.assertEqual((shown(desk), redoable(desk)), before)
        self.assertSame(twin.log, (("draw", 0, 2), ("draw", 1, 3), ("strike", 0, 1)))
        after = shown(twin), redoable(twin)
        desk.undo()
        desk.strike(2, 3)
        self.assertEqual((shown(twin), redoable(twin)), after)
        self.assertSame(desk.log, (("strike", 2, 3),))

    def test_copies_of_copies_and_of_full_desks(self):
        desk = full_desk(STAR)
        twin = desk.copy().copy()
        self.assertEqual(shown(twin), shown(desk))
        self.assertError(TooManyEdits(), call, twin, any_pair(twin.web))
        for _ in range(40):
            twin.undo()
        self.assertSame((twin.web, desk.version), (STAR, 40))
        self.assertSame(len(redoable(twin)), 40)
        self.assertSame(redoable(desk), [])


if __name__ == "__main__":
    unittest.main()
