"""way: deeds that lead from one web to another, for all pairs that have no mark."""

import itertools
import random
import unittest

from oddlines.bounds import MAX_DEEDS
from oddlines.classes import class_web
from oddlines.deeds import led, turned
from oddlines.errors import Apart
from oddlines.joining import way
from oddlines.locks import locked
from oddlines.marks import joined, mark
from oddlines.rows import web_with
from oddlines.webs import contrary, renamed
from pairs import drawn_pairs, drawn_web, joined_lots, joined_pairs, led_by, told_mark, wandered
from support import (
    EMPTY, OTHER_STAR, PAIR, PATH, SQUARE, STAR, Case, all_odd_sets, all_webs, empty_web, full_web, orders_to_try,
    sample_webs, told_class, told_locked, told_numbers,
)


class WayCase(Case):

    def assertApart(self, one, other, wanted, call=way):
        with self.assertRaises(Apart) as caught:
            call(one, other)
        self.assertIs(type(caught.exception), Apart)
        self.assertSame(caught.exception.mark, wanted)

    def check(self, one, other):
        """There is a way, or a mark: never both."""
        wanted = told_mark(one, other)
        if wanted is None:
            self.assertSame(led_by(self, one, way(one, other)), other)
        else:
            self.assertApart(one, other, wanted)
        return wanted is None


class Examples(WayCase):

    def test_ways(self):
        self.assertSame(led(PAIR, way(PAIR, SQUARE)), SQUARE)
        self.assertSame(led(SQUARE, way(SQUARE, EMPTY)), EMPTY)
        self.assertSame(led(STAR, way(STAR, STAR)), STAR)
        self.assertApart(STAR, OTHER_STAR, ("holder", 3))

    def test_turn(self):
        turn = (4, ((0, 1), (0, 2), (0, 3), (1, 2), (1, 3)))
        other = (4, ((0, 2), (0, 3), (1, 2), (1, 3), (2, 3)))
        self.assertSame(led(turn, way(turn, other)), other)


class Ways(WayCase):

    def test_all_pairs_of_webs_of_two_people_to_four(self):
        for many in (2, 3, 4):
            for one, other in itertools.product(all_webs(many), repeat=2):
                self.check(one, other)

    def test_one_web_of_each_class_of_five_people_and_all_others(self):
        for lot in joined_lots(5):
            for other in lot[::3]:
                self.assertTrue(self.check(lot[0], other))
                self.assertTrue(self.check(other, lot[0]))

    def test_drawn_pairs_of_two_people_to_ten(self):
        told = [self.check(one, other) for one, other in drawn_pairs()[::2]]
        self.assertTrue(100 < told.count(True) < len(told) - 100)

    def test_pairs_of_each_odd_set_of_two_people_to_ten(self):
        for many in range(2, 11):
            for one, other in joined_pairs(many, 3 if many < 8 else 1):
                self.assertTrue(self.check(one, other))

    def test_webs_behind_deeds_of_each_other(self):
        for many in range(2, 11):
            for seed, web in enumerate(sample_webs(many, 8)):
                for count in (1, 4, 20):
                    other = wandered(web, count, seed)
                    self.assertTrue(self.check(web, other))
                    self.assertTrue(self.check(other, web))

    def test_people_called_otherwise_who_hold_nothing_that_is_locked(self):
        chance = random.Random(7)
        for many in range(3, 11):
            for chosen in all_odd_sets(many)[:: 1 + many // 4]:
                people = tuple(chance.sample(range(many), len(told_locked(many, chosen))))
                web = drawn_web(many, chosen, people, chance)
                others = [person for person in range(many) if person not in people]
                order = list(range(many))
                for person, other in zip(others, chance.sample(others, len(others))):
                    order[person] = other
                self.assertTrue(self.check(web, renamed(web, tuple(order))))

    def test_all_lines_and_none(self):
        for many in range(2, 11):
            told = self.check(empty_web(many), full_web(many))
            self.assertIs(told, many % 2 == 0)
            self.assertIs(self.check(full_web(many), empty_web(many)), told)
            self.assertTrue(self.check(full_web(many), full_web(many)))

    def test_odd_sets_with_two_fewer_numbers_than_people(self):
        chance = random.Random(8)
        for many in range(2, 11):
            for chosen in [chosen for chosen in all_odd_sets(many) if len(chosen) == many - 2]:
                for _ in range(3):
                    people = tuple(chance.sample(range(many), len(told_locked(many, chosen))))
                    one = drawn_web(many, chosen, people, chance)
                    other = drawn_web(many, chosen, people, chance)
                    self.assertTrue(self.check(one, other))
                    self.assertTrue(self.check(one, class_web(many, chosen, people)))

    def test_each_order_of_those_who_hold_what_is_not_locked(self):
        # (1, 2, 3) of five people has nothing locked: so its holders can all change places.
        self.assertSame(locked(5, (1, 2, 3)), ())
        one = web_with((1, 2, 3, 2, 2))
        for row in sorted(set(itertools.permutations((1, 2, 3, 2, 2)))):
            self.assertTrue(self.check(one, web_with(row)))
        for row in sorted(set(itertools.permutations((1, 2, 3, 1, 1)))):
            self.assertTrue(self.check(web_with(row), one))

    def test_the_same_web(self):
        for many in range(2, 11):
            for web in sample_webs(many, 10):
                self.assertSame(led_by(self, web, way(web, web)), web)

    def test_like_numbers(self):
        for many in range(2, 11):
            for web in sample_webs(many, 10):
                self.assertTrue(self.check(web, web_with(told_numbers(web))))

    def test_unlike_many(self):
        for many, other_many in itertools.permutations(range(2, 11), 2):
            self.assertApart(empty_web(many), empty_web(other_many), "many")
            self.assertApart(full_web(many), empty_web(other_many), "many")

    def test_few_enough(self):
        self.assertEqual(MAX_DEEDS, 20000)
        # Ten people, as many as can be holding what is not locked, who all change places by twos.
        chance = random.Random(10)
        chosen_ones = sorted(all_odd_sets(10), key=lambda chosen: len(told_locked(10, chosen)) - len(chosen))
        for chosen in chosen_ones[:20]:
            locks = told_locked(10, chosen)
            web = drawn_web(10, chosen, tuple(range(len(locks))), chance)
            row = told_numbers(web)
            free = [row.index(number) for number in chosen if number not in locks]
            order = list(range(10))
            for a, b in zip(free[::2], free[1::2]):
                order[a], order[b] = b, a
            self.assertTrue(self.check(web, renamed(web, tuple(order))))
            self.assertTrue(self.check(web, renamed(drawn_web(10, chosen, told_class(web)[2], chance), tuple(order))))


class WhatHolds(WayCase):

    def test_turned_leads_back(self):
        for many in range(2, 11):
            for one, other in joined_pairs(many, 1)[::3]:
                self.assertSame(led_by(self, other, turned(way(one, other))), one)

    def test_ways_put_together(self):
        chance = random.Random(9)
        for many in range(2, 11):
            for chosen in all_odd_sets(many)[::5]:
                people = tuple(chance.sample(range(many), len(told_locked(many, chosen))))
                one, middle, other = [drawn_web(many, chosen, people, chance) for _ in range(3)]
                self.assertSame(led_by(self, one, way(one, middle) + way(middle, other)), other)
                self.assertTrue(self.check(one, other))

    def test_contrary_webs(self):
        for one, other in drawn_pairs()[::9]:
            self.assertIs(self.check(contrary(one), contrary(other)), joined(one, other))

    def test_people_renamed_in_both(self):
        for one, other in drawn_pairs()[::9]:
            order = orders_to_try(one[0])[-1]
            self.assertIs(self.check(renamed(one, order), renamed(other, order)), joined(one, other))

    def test_people_renamed_in_one(self):
        for many in range(2, 11):
            for web in sample_webs(many, 8):
                for order in orders_to_try(many)[-4:]:
                    stays = all(order[person] == person for person in told_class(web)[2])
                    self.assertIs(self.check(web, renamed(web, order)), stays)

    def test_a_way_or_a_mark_and_never_both(self):
        for one, other in drawn_pairs()[::7]:
            told = mark(one, other)
            if told is None:
                self.assertSame(led(one, way(one, other)), other)
            else:
                self.assertApart(one, other, told)


class Calls(WayCase):

    def test_by_name_and_again(self):
        for _ in range(2):
            self.assertSame(way(one=PAIR, other=SQUARE), way(PAIR, SQUARE))
            self.assertSame(led(SQUARE, way(other=PAIR, one=SQUARE)), PAIR)
            self.assertApart(STAR, SQUARE, ("odd", 1), lambda a, b: way(one=a, other=b))
            self.assertApart(PATH, SQUARE, "many")
        pairs = joined_pairs(8, 1)
        first = [way(*both) for both in pairs]
        self.assertSame([way(*both) for both in reversed(pairs)][::-1], first)

    def test_what_is_returned_cannot_change(self):
        for one, other in joined_pairs(6, 2):
            hash(way(one, other))


if __name__ == "__main__":
    unittest.main()
