"""deed_error, done and led: what is a deed, when it can be done, and what comes then."""

import copy
import itertools
import unittest

from oddlines.bounds import MAX_DEEDS
from oddlines.deeds import deed_error, done, led
from oddlines.errors import Refused, TooMany
from oddlines.webs import web_error
from support import (
    PAIR, PATH, SQUARE, STAR, Case, all_deeds, all_webs, empty_web, full_web, is_web, nested, run_from,
    sample_webs, strings_of_all_kinds, told_can, told_done, values_of_all_kinds,
)

LATE = ("strike", 0, 3)
NO_DEEDS = [
    ("draw",), ("draw", 0), ("draw", 0, 1, 2), ("draw", 0, 1, 2, 3), ("draw", 1, 0), ("draw", 1, 1), ("draw", 0, 4),
    ("draw", -1, 0), ("draw", -2, -1), ("draw", 0, True), ("draw", False, 1), ("draw", False, True), ("draw", "0", "1"),
    ("draw", None, 1), ("draw", 0, None), ("draw", (0, 1)), ("draw", [0], 1), ("draw", 0, (1,)), ("draw", 0, {}),
    ("strike",), ("strike", 0), ("strike", 0, 1, 2), ("strike", 2, 1), ("strike", 3, 3), ("strike", 3, 4),
    ("strike", 0, 10 ** 399), ("strike", -(10 ** 399), 0), ("strike", True, 2), ("strike", 0, 1, 2, 3),
    ("exchange",), ("exchange", 0, 1), ("exchange", 0, 1, 2), ("exchange", 0, 1, 2, 3, 0), ("exchange", 0, 1, 2, 4),
    ("exchange", 4, 1, 2, 3), ("exchange", -1, 1, 2, 3), ("exchange", 0, True, 2, 3), ("exchange", False, 1, 2, 3),
    ("exchange", 0, 0, 1, 2), ("exchange", 0, 1, 1, 2), ("exchange", 0, 1, 2, 2), ("exchange", 0, 1, 2, 0),
    ("exchange", 0, 1, 0, 1), ("exchange", (0, 1), (2, 3)), ("exchange", 0, 1, 2, None), ("exchange", 0, 1, 2, [3]),
    ("exchange", 0, 1, 2, "3"), ("exchange", "0", "1", "2", "3"), ("exchange", 0, 1, (2,), 3),
    ["draw", 0, 1], ["strike", 0, 1], ["exchange", 0, 1, 2, 3], "draw 0 1", "draw", "exchange", (), (0, 1), (0, 1, 2),
    ("Draw", 0, 1), ("DRAW", 0, 1), ("draw ", 0, 1), (" draw", 0, 1), ("", 0, 1), ("line", 0, 1), ("drawstrike", 0, 1),
    ("swap", 0, 1, 2, 3), ("Exchange", 0, 1, 2, 3), (None, 0, 1), (0, 0, 1), (True, 0, 1), (b"draw", 0, 1),
    (["draw"], 0, 1), (("draw",), 0, 1), (0, 1, "draw"), (0, "draw", 1), (("draw", 0, 1),), (("draw", 0, 1), None),
    {"draw": (0, 1)}, {0: "draw", 1: 0, 2: 1}, ("draw", "strike", 0, 1), ("dra", 0, 1), ("exchange", 0, 1, 2, {}),
]


def told_error(web, value):
    """What [C2] tells, by the repr of the value: there True is not 1."""
    forms = {repr(deed): deed for deed in all_deeds(web[0])}
    if repr(value) not in forms:
        return "form"
    return None if told_can(web, value) else "bar"


class DeedCase(Case):

    def assertRefused(self, call, deed):
        """The call raises Refused with just this deed."""
        with self.assertRaises(Refused) as caught:
            call()
        self.assertIs(type(caught.exception), Refused)
        self.assertIs(caught.exception.deed, deed)


class Examples(DeedCase):

    def test_deed_error(self):
        deeds = (
            ("draw", 0, 2), ("strike", 0, 1), ("exchange", 0, 1, 2, 3),
            ("draw", 0, 1), ("strike", 0, 2), ("exchange", 0, 1, 3, 2),
        )
        self.assertSame([deed_error(SQUARE, deed) for deed in deeds], [None, None, None, "bar", "bar", "bar"])
        deeds = (
            ("draw", 1, 2), ("strike", 0, 1), ("draw", 2, 1), ("draw", 1, 4), ("exchange", 0, 1, 2, 2),
            ["draw", 1, 2], ("strike", 0), None,
        )
        self.assertSame([deed_error(STAR, deed) for deed in deeds], [None, "bar"] + ["form"] * 6)

    def test_done(self):
        self.assertSame(done(SQUARE, ("draw", 0, 2)), (4, ((0, 1), (0, 2), (0, 3), (1, 2), (2, 3))))
        self.assertSame(done(SQUARE, ("exchange", 0, 1, 2, 3)), (4, ((0, 2), (0, 3), (1, 2), (1, 3))))
        with self.assertRaises(Refused) as caught:
            done(STAR, ("strike", 0, 1))
        self.assertSame(caught.exception.deed, ("strike", 0, 1))

    def test_led(self):
        self.assertSame(led(SQUARE, (("draw", 0, 2), ("draw", 1, 3))), full_web(4))
        self.assertSame(led(STAR, ()), STAR)
        with self.assertRaises(Refused) as caught:
            led(SQUARE, (("strike", 0, 1), ("strike", 0, 3)))
        self.assertSame(caught.exception.deed, ("strike", 0, 3))


class OneDeed(DeedCase):

    def check(self, web, value):
        wanted = told_error(web, value)
        self.assertSame(deed_error(web, value), wanted, (web, value))
        if wanted is None:
            self.assertSame(done(web, value), told_done(web, value))
        else:
            self.assertRefused(lambda: done(web, value), value)

    def test_all_webs_of_four_people_and_all_deeds(self):
        for web in all_webs(4):
            for deed in all_deeds(4):
                self.check(web, deed)

    def test_all_webs_of_two_and_three_people_and_all_deeds(self):
        for many in (2, 3):
            for web in all_webs(many):
                for deed in all_deeds(4):
                    self.check(web, deed)

    def test_larger_webs(self):
        for many in (5, 7, 10):
            deeds = all_deeds(many)
            for web in sample_webs(many, 6):
                for deed in deeds[::1 + len(deeds) // 120] + [deed for deed in deeds if told_can(web, deed)][:60]:
                    wanted = None if told_can(web, deed) else "bar"
                    self.assertSame(deed_error(web, deed), wanted)
                    if wanted is None:
                        self.assertSame(done(web, deed), told_done(web, deed))
                    else:
                        self.assertRefused(lambda: done(web, deed), deed)

    def test_values_that_are_no_deeds(self):
        for web in (SQUARE, STAR, PAIR, empty_web(4), full_web(4)):
            for value in NO_DEEDS + values_of_all_kinds() + strings_of_all_kinds():
                self.assertSame(deed_error(web, value), "form", repr(value)[:80])
                self.assertRefused(lambda: done(web, value), value)

    def test_each_item_of_a_deed_changed(self):
        others = [None, True, False, "", "0", "draw", "strike", "exchange", -1, 0, 1, 2, 3, 4, (1,), [1], {}, nested(5)]
        for deed in (("draw", 0, 1), ("strike", 1, 2), ("exchange", 0, 1, 2, 3), ("exchange", 3, 1, 0, 2)):
            for place, item in itertools.product(range(len(deed)), others):
                for web in (SQUARE, STAR, PAIR):
                    self.check(web, deed[:place] + (item,) + deed[place + 1:])
            for web in (SQUARE, STAR, PAIR):
                for value in (deed[:-1], deed + (3,), deed + deed, deed[::-1], list(deed), (deed,), deed[1:]):
                    self.check(web, value)

    def test_people_just_beyond(self):
        for many in range(2, 11):
            for web in (empty_web(many), full_web(many)):
                word = "strike" if web[1] else "draw"
                self.assertIsNone(deed_error(web, (word, 0, many - 1)))
                self.assertSame(deed_error(web, (word, 0, many)), "form")
                self.assertSame(deed_error(web, (word, -1, many - 1)), "form")
                self.assertSame(deed_error(web, ("exchange", 0, 1, many - 1, many)), "form")

    def test_four_ways_to_write_an_exchange(self):
        for web in all_webs(4) + sample_webs(8, 6):
            for a, b, c, d in itertools.permutations(range(4)):
                ways = [("exchange", *four) for four in ((a, b, c, d), (b, a, d, c), (c, d, a, b), (d, c, b, a))]
                errors = [deed_error(web, way) for way in ways]
                self.assertEqual(errors, errors[:1] * 4)
                if errors[0] is None:
                    self.assertEqual({done(web, way) for way in ways}, {told_done(web, ways[0])})

    def test_what_comes_are_webs(self):
        for web in all_webs(4) + sample_webs(9, 5):
            for deed in run_from(web, 6, 1)[0][:1]:
                self.assertTrue(is_web(done(web, deed)))
                self.assertIsNone(web_error(done(web, deed)))


class Led(DeedCase):

    def test_runs(self):
        for many in range(2, 11):
            for seed, web in enumerate(sample_webs(many, 4)):
                some, webs = run_from(web, 8, seed)
                for size in range(len(some) + 1):
                    self.assertSame(led(web, some[:size]), webs[size])

    def test_the_first_one_refused_where_its_turn_comes(self):
        wrong = [("draw", 0, 1, 2), None, True, [1], "draw 0 1", {}, ("strike", 1, 0), ("draw", 0, True)]
        for many in (4, 6, 10):
            for seed, web in enumerate(sample_webs(many, 3)):
                some, webs = run_from(web, 5, seed)
                for size in range(len(some) + 1):
                    barred = [deed for deed in all_deeds(many) if not told_can(webs[size], deed)]
                    for value in wrong + barred[:: 1 + len(barred) // 5]:
                        values = some[:size] + (value, "another", None)
                        self.assertRefused(lambda: led(web, values), value)

    def test_a_deed_that_could_be_done_at_first_but_not_at_its_turn(self):
        self.assertIsNone(deed_error(SQUARE, ("strike", 0, 3)))
        self.assertRefused(lambda: led(SQUARE, (("strike", 0, 1), LATE)), LATE)
        self.assertSame(led(PAIR, (("draw", 2, 3), ("draw", 0, 2))), (4, ((0, 1), (0, 2), (2, 3))))
        self.assertSame(deed_error(PAIR, ("draw", 0, 2)), "bar")

    def test_as_many_as_may_be(self):
        strike, draw = ("strike", 0, 1), ("draw", 0, 1)
        some = (strike, draw) * (MAX_DEEDS // 2)
        self.assertEqual(len(some), 20000)
        self.assertSame(led(SQUARE, some), SQUARE)
        self.assertSame(led(SQUARE, some[:-1]), done(SQUARE, strike))
        last = ("strike", 0, 2)
        self.assertRefused(lambda: led(SQUARE, some[:-1] + (last,)), last)

    def test_one_too_many(self):
        strike, draw = ("strike", 0, 1), ("draw", 0, 1)
        for some in ((strike, draw) * 10000 + (strike,), (None,) * 20001, (draw,) * 20001, ("draw",) * 30000):
            with self.assertRaises(TooMany) as caught:
                led(SQUARE, some)
            self.assertIs(type(caught.exception), TooMany)
            self.assertSame(caught.exception.limit, 20000)
        self.assertRefused(lambda: led(SQUARE, (None,) * 20000), None)


class Calls(DeedCase):

    def test_by_name(self):
        self.assertIsNone(deed_error(web=SQUARE, value=("draw", 0, 2)))
        self.assertSame(deed_error(value=("draw", 0, 1), web=SQUARE), "bar")
        self.assertSame(done(web=SQUARE, deed=("draw", 0, 2)), done(SQUARE, ("draw", 0, 2)))
        self.assertSame(led(web=SQUARE, some=(("draw", 0, 2), ("draw", 1, 3))), full_web(4))
        self.assertRefused(lambda: done(deed=LATE, web=STAR), LATE)
        self.assertRefused(lambda: led(some=(LATE,), web=STAR), LATE)

    def test_again(self):
        for _ in range(3):
            self.assertIsNone(deed_error(SQUARE, ("draw", 0, 2)))
            self.assertSame(deed_error(SQUARE, ("draw", False, 2)), "form")
            self.assertSame(done(SQUARE, ("strike", 0, 1)), (4, ((0, 3), (1, 2), (2, 3))))
            self.assertSame(led(PATH, (("draw", 0, 4),)), (5, ((0, 1), (0, 4), (1, 2), (2, 3), (3, 4))))
            self.assertRefused(lambda: led(SQUARE, (("strike", 0, 1), LATE)), LATE)

    def test_what_is_returned_cannot_change(self):
        hash(done(SQUARE, ("draw", 0, 2)))
        hash(led(SQUARE, (("draw", 0, 2), ("draw", 1, 3))))

    def test_what_is_handed_in_stays(self):
        for value in NO_DEEDS + values_of_all_kinds():
            before = copy.deepcopy(value)
            deed_error(SQUARE, value)
            self.assertRefused(lambda: done(SQUARE, value), value)
            self.assertRefused(lambda: led(SQUARE, (value, 1)), value)
            self.assertSame(value, before)


if __name__ == "__main__":
    unittest.main()
