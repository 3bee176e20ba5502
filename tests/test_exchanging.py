"""by_exchanges, without_line and with_line: webs with like numbers."""

import itertools
import random
import unittest

from oddlines.deeds import done, exchanges, led, turned
from oddlines.errors import Unfit
from oddlines.exchanging import by_exchanges, with_line, without_line
from oddlines.rows import web_with
from oddlines.webs import contrary, numbers, renamed
from support import (
    PAIR, SQUARE, STAR, Case, all_pairs, all_rows, all_webs, empty_web, full_web, is_web, rows_to_try, sample_rows,
    sample_webs, told_can, told_done, told_numbers,
)

BENT = (4, ((0, 1), (0, 2), (1, 3), (2, 3)))


def by_numbers(many):
    """All webs of so many people, by their numbers."""
    found = {}
    for web in all_webs(many):
        found.setdefault(told_numbers(web), []).append(web)
    return found


def shuffled(web, count, seed):
    """A web with the same numbers, count exchanges away."""
    chance = random.Random(seed)
    for _ in range(count):
        deeds = exchanges(web)
        web = done(web, chance.choice(deeds)) if deeds else web
    return web


class ByExchanges(Case):

    def check(self, one, other):
        some = by_exchanges(one, other)
        self.assertIs(type(some), tuple)
        self.assertLessEqual(len(some), 20000)
        web = one
        for deed in some:
            self.assertIs(type(deed), tuple)
            self.assertEqual((deed[0], len(deed)), ("exchange", 5))
            self.assertTrue(all(type(person) is int and 0 <= person < one[0] for person in deed[1:]))
            self.assertEqual(len(set(deed[1:])), 4)
            self.assertTrue(told_can(web, deed), (one, other, some))
            web = told_done(web, deed)
        self.assertSame(web, other)
        return some

    def assertUnfit(self, one, other):
        with self.assertRaises(Unfit) as caught:
            by_exchanges(one, other)
        self.assertIs(type(caught.exception), Unfit)

    def test_example(self):
        self.assertSame(led(SQUARE, by_exchanges(SQUARE, BENT)), BENT)
        self.assertSame(led(BENT, by_exchanges(BENT, SQUARE)), SQUARE)
        self.assertSame(led(STAR, by_exchanges(STAR, STAR)), STAR)
        self.assertSame(led(SQUARE, (("exchange", 0, 3, 2, 1),)), BENT)
        self.assertUnfit(SQUARE, STAR)
        self.assertUnfit(PAIR, (4, ((1, 2),)))
        self.assertUnfit((2, ()), (3, ()))

    def test_all_webs_of_few_people(self):
        for many in (2, 3, 4):
            for webs in by_numbers(many).values():
                for one, other in itertools.product(webs, repeat=2):
                    self.check(one, other)

    def test_all_webs_of_five_people(self):
        for webs in by_numbers(5).values():
            for one, other in itertools.product(webs, repeat=2):
                self.check(one, other)

    def test_larger_webs(self):
        for many in range(6, 11):
            for seed, one in enumerate(sample_webs(many, 12)):
                for count in (1, 2, 5, 30):
                    other = shuffled(one, count, seed)
                    self.check(one, other)
                    self.check(other, one)

    def test_webs_made_of_their_numbers(self):
        for many in range(6, 11):
            for one in sample_webs(many, 12):
                other = web_with(told_numbers(one))
                self.check(one, other)
                self.check(other, one)

    def test_webs_with_people_changed_over_who_have_like_numbers(self):
        # All people have three lines: so each order of them will do.
        prism = (6, ((0, 1), (0, 2), (0, 3), (1, 2), (1, 4), (2, 5), (3, 4), (3, 5), (4, 5)))
        for order in list(itertools.permutations(range(6)))[::11]:
            self.check(prism, renamed(prism, order))
        two_fives = (10, tuple(pair for pair in all_pairs(10) if (pair[0] < 5) == (pair[1] < 5)))
        for seed in range(20):
            order = random.Random(seed).sample(range(10), 10)
            self.check(two_fives, renamed(two_fives, tuple(order)))
            self.check(contrary(two_fives), renamed(contrary(two_fives), tuple(order)))

    def test_there_and_back(self):
        for many in range(4, 11):
            for seed, one in enumerate(sample_webs(many, 4)):
                other = shuffled(one, 7, seed)
                self.assertSame(led(other, turned(by_exchanges(one, other))), one)

    def test_the_same_web(self):
        for many in range(2, 11):
            for web in sample_webs(many, 5):
                self.check(web, web)

    def test_unlike_numbers(self):
        for one, other in itertools.product(all_webs(4), repeat=2):
            if told_numbers(one) != told_numbers(other):
                self.assertUnfit(one, other)
        for many in range(3, 11):
            for web in sample_webs(many, 6):
                order = tuple(range(1, many)) + (0,)
                if told_numbers(renamed(web, order)) != told_numbers(web):
                    self.assertUnfit(web, renamed(web, order))
            self.assertUnfit(empty_web(many), full_web(many))

    def test_unlike_many_people(self):
        for one, other in itertools.permutations(range(2, 11), 2):
            self.assertUnfit(empty_web(one), empty_web(other))
            self.assertUnfit(full_web(one), full_web(other))
            self.assertUnfit((one, ((0, 1),)), (other, ((0, 1),)))


class Lines(Case):

    def check(self, row, a, b, with_one, without_one):
        """The two webs are as told, with_one and without_one being whether there are such webs."""
        told = with_line(row, a, b)
        self.assertIs(told is not None, with_one, (row, a, b))
        if told is not None:
            self.assertTrue(is_web(told))
            self.assertSame(told_numbers(told), row)
            self.assertIn((min(a, b), max(a, b)), told[1])
        told = without_line(row, a, b)
        self.assertIs(told is not None, without_one, (row, a, b))
        if told is not None:
            self.assertTrue(is_web(told))
            self.assertSame(told_numbers(told), row)
            self.assertNotIn((min(a, b), max(a, b)), told[1])

    def test_example(self):
        self.assertSame(without_line((2, 2, 2, 2), 0, 1), (4, ((0, 2), (0, 3), (1, 2), (1, 3))))
        self.assertSame(with_line((1, 1, 0, 0), 1, 0), PAIR)
        self.assertIsNone(without_line((1, 1, 0, 0), 0, 1))
        self.assertIsNone(without_line((3, 1, 1, 1), 0, 2))
        self.assertSame(without_line((3, 1, 1, 1), 1, 2), STAR)
        self.assertIsNone(with_line((3, 1, 1, 1), 1, 2))
        self.assertIsNone(with_line((3, 3, 1, 1), 0, 1))
        tied = with_line((2, 2, 2, 2), 3, 1)
        self.assertIn((1, 3), tied[1])
        self.assertSame(numbers(tied), (2, 2, 2, 2))

    def test_all_rows_beside_all_webs(self):
        for many in (2, 3, 4, 5):
            known = by_numbers(many)
            for row in all_rows(many):
                webs = known.get(row, [])
                for a, b in all_pairs(many):
                    with_one = any((a, b) in lines for _, lines in webs)
                    without_one = any((a, b) not in lines for _, lines in webs)
                    self.check(row, a, b, with_one, without_one)
                    self.check(row, b, a, with_one, without_one)

    def test_rows_of_six_beside_all_webs(self):
        known = {}
        for web in all_webs(6):
            known.setdefault(told_numbers(web), [set(), set(all_pairs(6))])
            known[told_numbers(web)][0].update(web[1])
            known[told_numbers(web)][1].intersection_update(web[1])
        for row in sorted(known)[::9]:
            some, each = known[row]
            for a, b in all_pairs(6):
                self.check(row, a, b, (a, b) in some, (a, b) not in each)

    def test_rows_of_up_to_ten(self):
        for row in rows_to_try():
            other = tuple(len(row) - 1 - number for number in row)
            for a, b in all_pairs(len(row))[::1 + len(row) // 4]:
                with_one, without_one = with_line(row, a, b) is not None, without_line(row, a, b) is not None
                self.check(row, b, a, with_one, without_one)
                self.assertIs(with_one or without_one, web_with(row) is not None)
                self.check(other, a, b, without_one, with_one)

    def test_lines_of_drawn_webs(self):
        for many in range(5, 11):
            for web in sample_webs(many, 15):
                row = told_numbers(web)
                for a, b in all_pairs(many):
                    if (a, b) in web[1]:
                        self.assertIsNotNone(with_line(row, a, b))
                    else:
                        self.assertIsNotNone(without_line(row, a, b))

    def test_exchanges_lead_from_one_to_the_other(self):
        for many in range(4, 11):
            for web in sample_webs(many, 6):
                row = told_numbers(web)
                for a, b in all_pairs(many)[::5]:
                    one, other = with_line(row, a, b), without_line(row, a, b)
                    if one is not None and other is not None:
                        self.assertSame(led(one, by_exchanges(one, other)), other)

    def test_a_step_is_a_deed(self):
        for row in [row for row in rows_to_try() if web_with(row)]:
            for a, b in all_pairs(len(row)):
                if row[a] == row[b] < len(row) - 1:
                    raised = tuple(d + 1 if person in (a, b) else d for person, d in enumerate(row))
                    if web_with(raised) is not None:
                        one, other = without_line(row, a, b), with_line(raised, a, b)
                        self.assertIsNotNone(one)
                        self.assertIsNotNone(other)
                        self.assertSame(told_numbers(done(one, ("draw", a, b))), raised)
                        self.assertSame(told_numbers(done(other, ("strike", a, b))), row)

    def test_two_people(self):
        self.assertSame(with_line((1, 1), 0, 1), (2, ((0, 1),)))
        self.assertIsNone(without_line((1, 1), 0, 1))
        self.assertSame(without_line((0, 0), 1, 0), (2, ()))
        self.assertIsNone(with_line((0, 0), 1, 0))
        for row in ((1, 0), (0, 1)):
            self.assertIsNone(with_line(row, 0, 1))
            self.assertIsNone(without_line(row, 0, 1))

    def test_no_lines_and_all(self):
        for many in range(2, 11):
            for a, b in all_pairs(many):
                self.assertSame(without_line((0,) * many, a, b), empty_web(many))
                self.assertSame(with_line((many - 1,) * many, a, b), full_web(many))
                self.assertIsNone(with_line((0,) * many, a, b))
                self.assertIsNone(without_line((many - 1,) * many, a, b))


class Calls(Case):

    def test_by_name_and_again(self):
        for _ in range(2):
            some = by_exchanges(one=SQUARE, other=BENT)
            self.assertSame(led(SQUARE, some), BENT)
            self.assertSame(by_exchanges(other=BENT, one=SQUARE), some)
            self.assertSame(by_exchanges(SQUARE, BENT), some)
            self.assertSame(without_line(row=(2, 2, 2, 2), a=0, b=1), without_line((2, 2, 2, 2), 0, 1))
            self.assertSame(with_line(b=0, a=1, row=(1, 1, 0, 0)), PAIR)
        rows = sample_rows(8, 10)
        first = [(with_line(row, 0, 7), without_line(row, 7, 0)) for row in rows]
        backwards = [(with_line(row, 0, 7), without_line(row, 7, 0)) for row in reversed(rows)]
        self.assertSame(backwards[::-1], first)

    def test_what_is_returned_cannot_change(self):
        hash(by_exchanges(SQUARE, BENT))
        hash(with_line((2, 2, 2, 2), 0, 1))
        hash(without_line((2, 2, 2, 2), 0, 1))


if __name__ == "__main__":
    unittest.main()
