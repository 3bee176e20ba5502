"""numbers, has_line, contrary, renamed, one_more, and what holds of them together."""

import unittest

from oddlines.errors import TooMany
from oddlines.webs import contrary, has_line, numbers, one_more, renamed, web_error
from support import (
    PAIR, PATH, SQUARE, STAR, Case, all_pairs, empty_web, full_web, orders_to_try, sample_webs, webs_to_try,
)

BENT = (4, ((0, 1), (0, 2), (1, 3), (2, 3)))
TEN = (10, ((0, 1), (0, 9), (2, 7), (3, 4), (3, 9), (4, 9), (8, 9)))


def tied(web, a, b):
    """Whether a and b are tied, told by going through the lines one by one."""
    for low, high in web[1]:
        if (low, high) == (a, b) or (high, low) == (a, b):
            return True
    return False


def web_where(many, rule):
    return (many, tuple(pair for pair in all_pairs(many) if rule(*pair)))


class Numbers(Case):

    def test_example(self):
        self.assertSame(
            (numbers(SQUARE), numbers(STAR), numbers(PAIR), numbers(PATH)),
            ((2, 2, 2, 2), (3, 1, 1, 1), (1, 1, 0, 0), (1, 2, 2, 2, 1)),
        )

    def test_two_people(self):
        self.assertSame(numbers((2, ())), (0, 0))
        self.assertSame(numbers((2, ((0, 1),))), (1, 1))

    def test_ten_people(self):
        self.assertSame(numbers(TEN), (2, 1, 1, 2, 2, 0, 0, 1, 1, 4))
        self.assertSame(numbers(empty_web(10)), (0,) * 10)
        self.assertSame(numbers(full_web(10)), (9,) * 10)

    def test_all_people_are_counted(self):
        for web in webs_to_try():
            people = range(web[0])
            wanted = tuple(len([x for x in people if x != p and tied(web, p, x)]) for p in people)
            self.assertSame(numbers(web), wanted)

    def test_by_name(self):
        self.assertSame(numbers(web=PATH), (1, 2, 2, 2, 1))


class HasLine(Case):

    def test_example(self):
        self.assertIs(has_line(SQUARE, 3, 0), True)
        self.assertIs(has_line(SQUARE, 0, 2), False)

    def test_two_people(self):
        for a, b in ((0, 1), (1, 0)):
            self.assertIs(has_line((2, ()), a, b), False)
            self.assertIs(has_line((2, ((0, 1),)), a, b), True)

    def test_all_people_either_way_round(self):
        for web in webs_to_try():
            for a, b in all_pairs(web[0]):
                self.assertIs(has_line(web, a, b), tied(web, a, b))
                self.assertIs(has_line(web, b, a), tied(web, a, b))

    def test_by_name(self):
        self.assertIs(has_line(web=SQUARE, a=3, b=0), True)
        self.assertIs(has_line(b=2, a=0, web=SQUARE), False)


class Contrary(Case):

    def test_example(self):
        self.assertSame(contrary(SQUARE), (4, ((0, 2), (1, 3))))
        self.assertSame(contrary((2, ())), (2, ((0, 1),)))
        self.assertSame(numbers(contrary(PAIR)), (2, 2, 3, 3))

    def test_two_people_and_ten(self):
        self.assertSame(contrary((2, ((0, 1),))), (2, ()))
        self.assertSame(contrary(empty_web(10)), full_web(10))
        self.assertSame(contrary(full_web(10)), empty_web(10))
        self.assertEqual(len(contrary(TEN)[1]), 45 - 7)

    def test_lines_change_over(self):
        for web in webs_to_try():
            self.assertSame(contrary(web), web_where(web[0], lambda a, b: not tied(web, a, b)))

    def test_twice_leads_back(self):
        for web in webs_to_try():
            self.assertSame(contrary(contrary(web)), web)

    def test_by_name(self):
        self.assertSame(contrary(web=SQUARE), (4, ((0, 2), (1, 3))))


class Renamed(Case):

    def test_example(self):
        self.assertSame(renamed(PAIR, (2, 0, 3, 1)), (4, ((1, 3),)))
        self.assertSame(renamed(STAR, (1, 0, 2, 3)), (4, ((0, 1), (1, 2), (1, 3))))

    def test_two_people(self):
        for order in ((0, 1), (1, 0)):
            self.assertSame(renamed((2, ()), order), (2, ()))
            self.assertSame(renamed((2, ((0, 1),)), order), (2, ((0, 1),)))

    def test_a_round_of_three_goes_the_way_that_is_told(self):
        # Person 0 is who was 1, 1 who was 2, 2 who was 0: the line 0-1 is between 2 and 0.
        self.assertSame(renamed((3, ((0, 1),)), (1, 2, 0)), (3, ((0, 2),)))

    def test_ten_people(self):
        turned_about = tuple(range(9, -1, -1))
        self.assertSame(
            renamed(TEN, turned_about), (10, ((0, 1), (0, 5), (0, 6), (0, 9), (2, 7), (5, 6), (8, 9)))
        )
        self.assertSame(renamed(TEN, tuple(range(10))), TEN)

    def test_lines_go_with_the_people(self):
        for web in webs_to_try():
            for order in orders_to_try(web[0]):
                wanted = web_where(web[0], lambda i, j: tied(web, order[i], order[j]))
                self.assertSame(renamed(web, order), wanted)

    def test_there_and_back(self):
        for web in webs_to_try():
            for order in orders_to_try(web[0]):
                back = tuple(order.index(person) for person in range(web[0]))
                self.assertSame(renamed(renamed(web, order), back), web)

    def test_by_name(self):
        self.assertSame(renamed(web=PAIR, order=(2, 0, 3, 1)), (4, ((1, 3),)))
        self.assertSame(renamed(order=(2, 0, 3, 1), web=PAIR), (4, ((1, 3),)))


class OneMore(Case):

    def test_example(self):
        self.assertSame(one_more(PAIR, False), (5, ((0, 1),)))
        self.assertSame(one_more(PAIR, True), (5, ((0, 1), (0, 4), (1, 4), (2, 4), (3, 4))))
        with self.assertRaises(TooMany) as caught:
            one_more((10, ()), True)
        self.assertSame(caught.exception.limit, 10)

    def test_two_people(self):
        self.assertSame(one_more((2, ()), False), (3, ()))
        self.assertSame(one_more((2, ()), True), (3, ((0, 2), (1, 2))))
        self.assertSame(one_more((2, ((0, 1),)), False), (3, ((0, 1),)))
        self.assertSame(one_more((2, ((0, 1),)), True), (3, ((0, 1), (0, 2), (1, 2))))

    def test_lines_of_all(self):
        for web in webs_to_try():
            many = web[0]
            if many < 10:
                self.assertSame(one_more(web, False), (many + 1, web[1]))
                wanted = web_where(many + 1, lambda a, b: b == many or tied(web, a, b))
                self.assertSame(one_more(web, True), wanted)

    def test_nine_people_become_ten(self):
        self.assertSame(one_more(full_web(9), True), full_web(10))
        self.assertSame(one_more(empty_web(9), False), empty_web(10))

    def test_ten_people_are_too_many(self):
        for web in [TEN] + sample_webs(10, 5):
            for is_tied in (True, False):
                with self.assertRaises(TooMany) as caught:
                    one_more(web, is_tied)
                self.assertIs(type(caught.exception), TooMany)
                self.assertSame(caught.exception.limit, 10)

    def test_by_name(self):
        self.assertSame(one_more(web=PAIR, is_tied=False), (5, ((0, 1),)))
        self.assertSame(one_more(is_tied=True, web=(2, ())), (3, ((0, 2), (1, 2))))
        with self.assertRaises(TooMany):
            one_more(web=TEN, is_tied=False)


class WhatHolds(Case):

    def test_numbers_of_a_web(self):
        for web in webs_to_try():
            many, told = web[0], numbers(web)
            self.assertEqual(len(told), many)
            self.assertEqual(sum(told), 2 * len(web[1]))
            self.assertTrue(all(0 <= number < many for number in told))
            self.assertFalse(0 in told and many - 1 in told)

    def test_numbers_of_the_contrary_web(self):
        for web in webs_to_try():
            wanted = tuple(web[0] - 1 - number for number in numbers(web))
            self.assertSame(numbers(contrary(web)), wanted)

    def test_numbers_of_a_renamed_web(self):
        for web in webs_to_try():
            told = numbers(web)
            for order in orders_to_try(web[0]):
                self.assertSame(numbers(renamed(web, order)), tuple(told[person] for person in order))

    def test_numbers_with_one_more(self):
        for web in webs_to_try():
            if web[0] < 10:
                told = numbers(web)
                self.assertSame(numbers(one_more(web, False)), told + (0,))
                wanted = tuple(number + 1 for number in told) + (web[0],)
                self.assertSame(numbers(one_more(web, True)), wanted)

    def test_contrary_of_one_more(self):
        for web in webs_to_try():
            if web[0] < 10:
                self.assertSame(contrary(one_more(web, False)), one_more(contrary(web), True))
                self.assertSame(contrary(one_more(web, True)), one_more(contrary(web), False))

    def test_what_comes_are_webs(self):
        for web in webs_to_try():
            self.assertIsNone(web_error(contrary(web)))
            for order in orders_to_try(web[0]):
                self.assertIsNone(web_error(renamed(web, order)))
            if web[0] < 10:
                self.assertIsNone(web_error(one_more(web, False)))
                self.assertIsNone(web_error(one_more(web, True)))


class Calls(Case):

    def tell_all(self, web):
        order = tuple(range(1, web[0])) + (0,)
        told = [numbers(web), has_line(web, 1, 0), contrary(web), renamed(web, order)]
        return told + [one_more(web, True), one_more(web, False)]

    def test_again(self):
        webs = [SQUARE, STAR, PAIR, PATH, BENT, (2, ()), (2, ((0, 1),)), (3, ()), (9, ((0, 8),))]
        first = [self.tell_all(web) for web in webs]
        backwards = [self.tell_all(web) for web in reversed(webs)]
        self.assertSame(backwards[::-1], first)
        self.assertSame([self.tell_all(web) for web in webs], first)

    def test_too_many_again(self):
        for _ in range(3):
            with self.assertRaises(TooMany) as caught:
                one_more(TEN, True)
            self.assertSame(caught.exception.limit, 10)

    def test_what_is_returned_cannot_change(self):
        for told in self.tell_all(SQUARE):
            hash(told)

    def test_what_is_handed_in_stays(self):
        web, order = (4, ((0, 1), (0, 3))), (3, 1, 0, 2)
        self.tell_all(web)
        renamed(web, order)
        self.assertSame((web, order), ((4, ((0, 1), (0, 3))), (3, 1, 0, 2)))


if __name__ == "__main__":
    unittest.main()
