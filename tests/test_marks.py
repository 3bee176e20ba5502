"""mark and joined: what shows that no deeds lead from one web to another."""

import itertools
import unittest

from oddlines.classes import class_of, class_web
from oddlines.deeds import done
from oddlines.exchanging import by_exchanges
from oddlines.locks import locked
from oddlines.marks import joined, mark
from oddlines.oddsets import odd_set, web_for
from oddlines.rows import web_with
from oddlines.webs import contrary, renamed
from pairs import deeds_in, drawn_pairs, told_mark, wandered
from support import (
    EMPTY, OTHER_STAR, PAIR, PATH, SQUARE, STAR, Case, all_odd_sets, all_webs, empty_web, full_web, orders_to_try,
    sample_webs, told_class, told_numbers,
)

THREE = (4, ((0, 1), (0, 2), (1, 2)))


class Examples(Case):

    def test_mark_and_joined(self):
        pairs = ((SQUARE, PAIR), (SQUARE, STAR), (STAR, SQUARE), (STAR, OTHER_STAR), (SQUARE, PATH), (STAR, STAR))
        self.assertSame(
            [mark(*both) for both in pairs], [None, ("odd", 1), ("odd", 1), ("holder", 3), "many", None]
        )
        self.assertSame((mark(THREE, STAR), mark(THREE, SQUARE)), (("odd", 0), ("odd", 0)))
        self.assertSame((joined(SQUARE, EMPTY), joined(STAR, OTHER_STAR)), (True, False))
        self.assertIs(joined(PAIR, (4, ((2, 3),))), True)


class Marks(Case):

    def check(self, one, other):
        wanted = told_mark(one, other)
        for both in ((one, other), (other, one)):
            self.assertSame(mark(*both), wanted, both)
            self.assertSame(joined(*both), wanted is None, both)
        return wanted

    def test_all_pairs_of_webs_of_two_people_to_four(self):
        for many in (2, 3, 4):
            for one, other in itertools.combinations_with_replacement(all_webs(many), 2):
                self.check(one, other)

    def test_drawn_pairs_of_two_people_to_ten(self):
        words = [self.check(one, other) for one, other in drawn_pairs()]
        self.assertEqual({word[0] for word in words if word is not None}, {"odd", "holder"})
        self.assertGreater(words.count(None), 100)

    def test_unlike_many(self):
        for many, other_many in itertools.permutations(range(2, 11), 2):
            for one in (empty_web(many), full_web(many)):
                for other in (empty_web(other_many), full_web(other_many)):
                    self.assertSame(mark(one, other), "many")
                    self.assertIs(joined(one, other), False)

    def test_all_pairs_of_unlike_odd_sets(self):
        for many in range(3, 9):
            webs = {chosen: web_for(many, chosen) for chosen in all_odd_sets(many)}
            for one, other in itertools.permutations(webs, 2):
                self.assertSame(mark(webs[one], webs[other]), ("odd", min(set(one) ^ set(other))))

    def test_all_pairs_of_unlike_holders(self):
        for many in range(4, 7):
            for chosen in all_odd_sets(many):
                locks = locked(many, chosen)
                tuples = list(itertools.permutations(range(many), len(locks)))
                webs = {people: class_web(many, chosen, people) for people in tuples[:: 1 + len(tuples) // 40]}
                for one, other in itertools.permutations(webs, 2):
                    least = min(number for number, a, b in zip(locks, one, other) if a != b)
                    self.assertSame(mark(webs[one], webs[other]), ("holder", least))

    def test_the_least_number(self):
        # Both 0 and 3 are locked in (0, 1, 3) of five people.
        one = class_web(5, (0, 1, 3), (0, 1))
        for people, wanted in (((1, 0), 0), ((2, 1), 0), ((0, 2), 3), ((4, 3), 0), ((0, 1), None)):
            told = None if wanted is None else ("holder", wanted)
            self.assertSame(mark(one, class_web(5, (0, 1, 3), people)), told)
        self.assertSame(mark(one, empty_web(5)), ("odd", 1))
        self.assertSame(mark(one, full_web(5)), ("odd", 0))
        self.assertSame(mark(empty_web(5), full_web(5)), ("odd", 0))
        self.assertSame(mark(STAR, EMPTY), ("odd", 1))
        # 1 is not locked in (1, 3): who has it does not matter, and 3 is greater.
        self.assertSame(mark(web_with((3, 1, 2, 2)), web_with((2, 1, 2, 3))), ("holder", 3))

    def test_none_where_the_holders_are_the_same(self):
        for many in range(3, 11):
            for chosen in all_odd_sets(many)[::3]:
                size = len(locked(many, chosen))
                people = orders_to_try(many)[-1][:size]
                one = class_web(many, chosen, people)
                self.assertSame(mark(one, wandered(one, 15, many)), None)
                self.assertIs(joined(wandered(one, 15, many), one), True)
                # Everybody else may hold each other number.
                others = [person for person in range(many) if person not in people]
                order = list(range(many))
                for person, other in zip(others, others[1:] + others[:1]):
                    order[person] = other
                self.assertIs(joined(one, renamed(one, tuple(order))), True)


class WhatHolds(Case):

    def test_each_deed_joins(self):
        for web in all_webs(4) + [web for many in range(5, 11) for web in sample_webs(many, 3)]:
            deeds = deeds_in(web)
            for deed in deeds[::1 + len(deeds) // 30]:
                self.assertIs(joined(web, done(web, deed)), True)
                self.assertIs(joined(done(web, deed), web), True)

    def test_just_those_that_deeds_lead_to(self):
        for many in (2, 3, 4):
            for web in all_webs(many):
                found = [web]
                for one in found:
                    behind = [done(one, deed) for deed in deeds_in(one)]
                    found += [other for other in behind if other not in found]
                self.assertEqual({other for other in all_webs(many) if joined(web, other)}, set(found))

    def test_joined_goes_over(self):
        webs = all_webs(4)
        told = {(one, other): joined(one, other) for one in webs for other in webs}
        for one, other in told:
            self.assertIs(told[one, other], told[other, one])
            if told[one, other]:
                self.assertEqual([told[one, web] for web in webs], [told[other, web] for web in webs])
        self.assertTrue(all(told[web, web] for web in webs))

    def test_joined_is_one_class(self):
        for one, other in drawn_pairs()[::3]:
            self.assertIs(joined(one, other), class_of(one) == class_of(other))

    def test_contrary_webs(self):
        pairs = list(itertools.combinations(all_webs(4), 2))[::7] + drawn_pairs()[::5]
        for one, other in pairs:
            self.assertIs(joined(contrary(one), contrary(other)), joined(one, other))
            told = mark(contrary(one), contrary(other))
            self.assertEqual(told and told[0], mark(one, other) and mark(one, other)[0])

    def test_people_renamed_in_both(self):
        for one, other in drawn_pairs()[::5]:
            for order in orders_to_try(one[0])[-3:]:
                self.assertSame(mark(renamed(one, order), renamed(other, order)), mark(one, other))

    def test_people_renamed_in_one(self):
        webs = [web for many in (2, 3, 4) for web in all_webs(many)]
        for web in webs + [web for many in range(5, 11) for web in sample_webs(many, 8)]:
            people = told_class(web)[2]
            for order in orders_to_try(web[0]):
                stays = all(order[person] == person for person in people)
                self.assertIs(joined(web, renamed(web, order)), stays)

    def test_like_numbers(self):
        for many in range(2, 11):
            for web in sample_webs(many, 10):
                other = web_with(told_numbers(web))
                self.assertIs(joined(web, other), True)
                self.assertIsNotNone(by_exchanges(web, other))

    def test_odd_sets_are_kept(self):
        for one, other in drawn_pairs()[::4]:
            if joined(one, other):
                self.assertSame(odd_set(one), odd_set(other))


class Calls(Case):

    def test_by_name_and_again(self):
        for _ in range(2):
            self.assertSame(mark(one=STAR, other=OTHER_STAR), ("holder", 3))
            self.assertSame(mark(other=PATH, one=SQUARE), "many")
            self.assertIs(joined(other=EMPTY, one=SQUARE), True)
            self.assertIs(joined(one=STAR, other=SQUARE), False)
        pairs = drawn_pairs()[::40]
        first = [mark(*both) for both in pairs]
        self.assertSame([mark(*both) for both in reversed(pairs)][::-1], first)

    def test_what_is_returned_cannot_change(self):
        for both in ((STAR, SQUARE), (STAR, OTHER_STAR), (STAR, PATH), (STAR, STAR)):
            hash(mark(*both))


if __name__ == "__main__":
    unittest.main()
