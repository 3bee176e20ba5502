"""draws, strikes, exchanges, back and turned, and what holds of all deeds."""

import unittest

from oddlines.deeds import back, deed_error, done, draws, exchanges, led, strikes, turned
from oddlines.oddsets import odd_set
from oddlines.webs import contrary, numbers, renamed
from pairs import deeds_in
from support import (
    PATH, SQUARE, STAR, Case, all_deeds, all_webs, empty_web, full_web, orders_to_try, run_from, sample_webs,
    told_can, webs_to_try,
)


def told_deeds(web, word):
    """All deeds of this word that can be done; of exchanges those with the least person first."""
    deeds = [deed for deed in all_deeds(web[0]) if deed[0] == word and told_can(web, deed)]
    return tuple(deed for deed in deeds if word != "exchange" or deed[1] == min(deed[1:]))


def some_webs():
    return [web for many in (2, 3, 4) for web in all_webs(many)] + [
        web for many in range(5, 11) for web in sample_webs(many, 3)
    ]


class Examples(Case):

    def test_square(self):
        self.assertSame(draws(SQUARE), (("draw", 0, 2), ("draw", 1, 3)))
        self.assertSame(
            strikes(SQUARE), (("strike", 0, 1), ("strike", 0, 3), ("strike", 1, 2), ("strike", 2, 3))
        )
        self.assertSame(exchanges(SQUARE), (("exchange", 0, 1, 2, 3), ("exchange", 0, 3, 2, 1)))

    def test_star_and_path(self):
        self.assertSame(draws(STAR), (("draw", 1, 2), ("draw", 1, 3), ("draw", 2, 3)))
        self.assertSame((strikes(STAR), exchanges(STAR)), ((), ()))
        self.assertSame(draws(PATH), (("draw", 0, 4), ("draw", 1, 3)))
        self.assertSame(strikes(PATH), (("strike", 1, 2), ("strike", 2, 3)))
        self.assertSame(
            exchanges(PATH),
            (
                ("exchange", 0, 1, 2, 3), ("exchange", 0, 1, 3, 4), ("exchange", 0, 1, 4, 3), ("exchange", 1, 2, 3, 4),
            ),
        )

    def test_back_and_turned(self):
        self.assertSame(back(("draw", 0, 2)), ("strike", 0, 2))
        self.assertSame(back(("exchange", 0, 1, 2, 3)), ("exchange", 0, 2, 1, 3))
        self.assertSame(
            turned((("draw", 0, 2), ("exchange", 0, 1, 2, 3))), (("exchange", 0, 2, 1, 3), ("strike", 0, 2))
        )
        self.assertSame(turned(()), ())
        self.assertSame(led(done(SQUARE, ("draw", 0, 2)), turned((("draw", 0, 2),))), SQUARE)


class Lists(Case):

    def test_all_deeds_that_can_be_done_and_no_others(self):
        for web in some_webs():
            self.assertSame(draws(web), told_deeds(web, "draw"))
            self.assertSame(strikes(web), told_deeds(web, "strike"))
            self.assertSame(exchanges(web), told_deeds(web, "exchange"))

    def test_ascending_and_each_can_be_done(self):
        for web in webs_to_try():
            for told in (draws(web), strikes(web), exchanges(web)):
                self.assertIs(type(told), tuple)
                self.assertEqual(list(told), sorted(set(told)))
                for deed in told:
                    self.assertIsNone(deed_error(web, deed))

    def test_each_exchange_once_with_the_least_person_ahead(self):
        for web in webs_to_try():
            told = exchanges(web)
            for _, a, b, c, d in told:
                self.assertTrue(a < min(b, c, d))
                for four in ((b, a, d, c), (c, d, a, b), (d, c, b, a)):
                    self.assertNotIn(("exchange", *four), told)

    def test_two_people_and_ten(self):
        self.assertSame([draws((2, ())), strikes((2, ())), exchanges((2, ()))], [(("draw", 0, 1),), (), ()])
        line = (2, ((0, 1),))
        self.assertSame([draws(line), strikes(line), exchanges(line)], [(), (("strike", 0, 1),), ()])
        self.assertEqual((len(draws(empty_web(10))), len(strikes(full_web(10)))), (45, 45))
        self.assertSame((strikes(empty_web(10)), exchanges(empty_web(10))), ((), ()))
        self.assertSame((draws(full_web(10)), exchanges(full_web(10))), ((), ()))
        self.assertSame(exchanges((10, ((6, 9), (7, 8)))), (("exchange", 6, 9, 7, 8), ("exchange", 6, 9, 8, 7)))


class Back(Case):

    def test_back_of_each_deed(self):
        for deed in all_deeds(6):
            if deed[0] == "exchange":
                _, a, b, c, d = deed
                self.assertSame(back(deed), ("exchange", a, c, b, d))
            else:
                self.assertSame(back(deed), ({"draw": "strike", "strike": "draw"}[deed[0]], deed[1], deed[2]))
            self.assertSame(back(back(deed)), deed)

    def test_back_can_be_done_and_leads_back(self):
        for web in some_webs():
            for deed in [deed for deed in all_deeds(web[0]) if told_can(web, deed)][:200]:
                behind = done(web, deed)
                self.assertIsNone(deed_error(behind, back(deed)))
                self.assertSame(done(behind, back(deed)), web)

    def test_runs_there_and_back(self):
        for many in range(2, 11):
            for seed, web in enumerate(sample_webs(many, 4)):
                some, webs = run_from(web, 10, seed)
                self.assertSame(turned(some), tuple(back(deed) for deed in reversed(some)))
                self.assertSame(turned(turned(some)), some)
                self.assertSame(led(webs[-1], turned(some)), web)
                self.assertSame(led(led(web, some), turned(some)), web)


class WhatHolds(Case):

    def test_numbers_and_odd_sets(self):
        for web in some_webs():
            row = numbers(web)
            for deed in deeds_in(web):
                step = {"draw": 1, "strike": -1, "exchange": 0}[deed[0]]
                wanted = tuple(d + step if person in deed[1:3] else d for person, d in enumerate(row))
                self.assertSame(numbers(done(web, deed)), wanted)
                self.assertSame(odd_set(done(web, deed)), odd_set(web))

    def test_contrary_webs(self):
        for web in some_webs():
            other = contrary(web)
            deeds = all_deeds(web[0])
            for deed in deeds[::1 + len(deeds) // 400]:
                self.assertSame(deed_error(other, back(deed)), deed_error(web, deed))
                if deed_error(web, deed) is None:
                    self.assertSame(done(other, back(deed)), contrary(done(web, deed)))

    def test_contrary_draws_and_strikes(self):
        for web in some_webs():
            other = contrary(web)
            self.assertSame(draws(other), tuple(("draw", a, b) for _, a, b in strikes(web)))
            self.assertSame(strikes(other), tuple(("strike", a, b) for _, a, b in draws(web)))
            self.assertEqual(len(exchanges(other)), len(exchanges(web)))

    def test_renamed_webs(self):
        for web in some_webs():
            for order in orders_to_try(web[0])[:6]:
                other = renamed(web, order)
                for word, *people in deeds_in(web)[:60]:
                    mine = [order.index(person) for person in people]
                    deed = (word, *mine) if word == "exchange" else (word, *sorted(mine))
                    self.assertIsNone(deed_error(other, deed))
                    self.assertSame(done(other, deed), renamed(done(web, (word, *people)), order))
                for tell in (draws, strikes, exchanges):
                    self.assertEqual(len(tell(other)), len(tell(web)))


class Calls(Case):

    def test_by_name_and_again(self):
        for _ in range(2):
            self.assertSame(draws(web=SQUARE), (("draw", 0, 2), ("draw", 1, 3)))
            self.assertSame(strikes(web=PATH), (("strike", 1, 2), ("strike", 2, 3)))
            self.assertSame(exchanges(web=SQUARE), (("exchange", 0, 1, 2, 3), ("exchange", 0, 3, 2, 1)))
            self.assertSame(back(deed=("strike", 1, 4)), ("draw", 1, 4))
            self.assertSame(turned(some=(("strike", 1, 4), ("draw", 0, 3))), (("strike", 0, 3), ("draw", 1, 4)))

    def test_what_is_returned_cannot_change(self):
        for told in (draws(SQUARE), strikes(SQUARE), exchanges(SQUARE), turned(exchanges(SQUARE))):
            hash(told)


if __name__ == "__main__":
    unittest.main()
