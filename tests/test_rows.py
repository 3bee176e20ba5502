"""row_error, web_with, is_webs, level_of, and the steps that lead to a level."""

import copy
import itertools
import random
import unittest

from oddlines.rows import is_webs, level_of, row_error, web_with
from oddlines.webs import contrary, numbers
from support import (
    PAIR, Case, all_rows, all_webs, is_web, nested, rows_to_try, sample_rows, sample_webs,
    strings_of_all_kinds, told_numbers, values_of_all_kinds, webs_to_try,
)


def told_error(many, value):
    """What the document tells, by the repr of numbers: there True is not 1."""
    if type(value) is not tuple or len(value) != many:
        return "form"
    right = [repr(number) for number in range(many)]
    wrong = [place for place, number in enumerate(value) if repr(number) not in right]
    return ("number", wrong[0]) if wrong else None


def told_level(row):
    """The level as [B2] tells it, with places counted from 1."""
    ranks = sorted(row, reverse=True)
    return [k for k in range(1, len(row) + 1) if ranks[k - 1] >= k - 1][-1] - 1


def orders_of(row):
    """All orders of up to four numbers; some of more."""
    if len(row) <= 4:
        return sorted(set(itertools.permutations(row)))
    chance = random.Random(len(row))
    return [row[::-1], tuple(sorted(row))] + [tuple(chance.sample(row, len(row))) for _ in range(3)]


class RowError(Case):

    def test_example(self):
        values = (
            (2, 2, 2, 2), (3, 3, 3, 0), (2, 2, 2), [2, 2, 2, 2], (2, 4, 2, 5), (2, True, 2, 2), (-1, 0, 0, 0), None,
        )
        self.assertSame(
            [row_error(4, value) for value in values],
            [None, None, "form", "form", ("number", 1), ("number", 1), ("number", 0), "form"],
        )

    def test_rows(self):
        for row in rows_to_try():
            self.assertIsNone(row_error(len(row), row))

    def test_too_long_and_too_short(self):
        for many in range(2, 11):
            for size in range(14):
                wanted = None if size == many else "form"
                self.assertSame(row_error(many, (1,) * size), wanted)
            self.assertSame(row_error(many, (0,) * 4000), "form")
            self.assertSame(row_error(many, (None,) * (many + 1)), "form")

    def test_no_tuple(self):
        for many in range(2, 11):
            for value in ([1] * many, {place: 1 for place in range(many)}, "1" * many, b"\x01" * many, many):
                self.assertSame(row_error(many, value), "form")

    def test_numbers_just_beyond(self):
        for many in range(2, 11):
            for place in range(many):
                for number in (-1, many, many + 1, 10 ** 399, -(10 ** 399)):
                    row = [many - 1] * many
                    row[place] = number
                    self.assertSame(row_error(many, tuple(row)), ("number", place))
                for number in (0, many - 1):
                    row = [1] * many
                    row[place] = number
                    self.assertIsNone(row_error(many, tuple(row)))

    def test_values_that_are_no_numbers(self):
        for item in [None, True, False, "1", "", b"1", (), (1,), [], [1], {}, {1: 1}, nested(19)]:
            for place in range(4):
                value = (1, 1, 1, 1)[:place] + (item,) + (1, 1, 1, 1)[place + 1:]
                self.assertSame(row_error(4, value), ("number", place))

    def test_the_first_such_place(self):
        pool = (0, 3, 4, -1, True, None, "1", (1,), [1])
        for value in itertools.product(pool, repeat=4):
            self.assertSame(row_error(4, value), told_error(4, value))
        for value in itertools.product((0, 1, 2, -1, True, False), repeat=2):
            self.assertSame(row_error(2, value), told_error(2, value))

    def test_values_of_all_kinds(self):
        for value in values_of_all_kinds() + strings_of_all_kinds():
            for many in (2, 3, 10):
                self.assertSame(row_error(many, value), told_error(many, value))

    def test_by_name_and_again(self):
        for _ in range(2):
            self.assertIsNone(row_error(many=4, value=(2, 1, 2, 2)))
            self.assertSame(row_error(value=(2, True, 2, 2), many=4), ("number", 1))
            self.assertSame(row_error(many=3, value=(2, 1, 2, 2)), "form")

    def test_what_is_handed_in_stays(self):
        for value in values_of_all_kinds() + [([1], {2: [3]}, 1, 1)]:
            before = copy.deepcopy(value)
            row_error(4, value)
            self.assertSame(value, before)


class WebWith(Case):

    def assertFits(self, web, row):
        self.assertTrue(is_web(web), web)
        self.assertSame(web[0], len(row))
        self.assertSame(told_numbers(web), tuple(row))

    def test_example(self):
        rows = (
            (2, 2, 2, 2), (3, 1, 1, 1), (3, 3, 1, 1), (3, 2, 1, 0), (1, 0), (0, 0), (3, 3, 2, 2), (2, 2, 1, 1, 0),
        )
        self.assertSame(
            [is_webs(row) for row in rows], [True, True, False, False, False, True, True, True]
        )
        self.assertSame(web_with((1, 3, 1, 1)), (4, ((0, 1), (1, 2), (1, 3))))
        self.assertSame(web_with((1, 1, 0, 0)), PAIR)
        self.assertIsNone(web_with((3, 3, 1, 1)))
        self.assertSame(numbers(web_with((2, 2, 2, 2))), (2, 2, 2, 2))

    def test_all_rows_beside_all_webs(self):
        for many in range(2, 6):
            known = {told_numbers(web) for web in all_webs(many)}
            for row in all_rows(many):
                self.assertIs(is_webs(row), row in known)
                if row in known:
                    self.assertFits(web_with(row), row)
                else:
                    self.assertIsNone(web_with(row))

    def test_rows_of_webs(self):
        for web in webs_to_try() + sample_webs(10, 200):
            row = told_numbers(web)
            self.assertIs(is_webs(row), True)
            self.assertFits(web_with(row), row)

    def test_rows_of_up_to_ten(self):
        for row in rows_to_try():
            web = web_with(row)
            self.assertIs(is_webs(row), web is not None)
            if web is not None:
                self.assertFits(web, row)

    def test_odd_sums(self):
        for row in rows_to_try():
            if sum(row) % 2:
                self.assertIsNone(web_with(row))
                self.assertIs(is_webs(row), False)

    def test_all_alike(self):
        for many in range(2, 11):
            for number in range(many):
                row = (number,) * many
                self.assertIs(is_webs(row), many * number % 2 == 0)
                if is_webs(row):
                    self.assertFits(web_with(row), row)

    def test_two_lots_of_ten(self):
        known = {(9, 1): [0, 1, 10], (9, 0): [0, 10], (1, 0): [0, 2, 4, 6, 8, 10], (9, 8): [0, 2, 4, 6, 8, 10]}
        for (high, low), wanted in known.items():
            for size in range(11):
                row = (high,) * size + (low,) * (10 - size)
                self.assertIs(is_webs(row), size in wanted, row)

    def test_other_orders(self):
        for row in rows_to_try():
            for order in orders_of(row):
                self.assertIs(is_webs(order), is_webs(row))
                if is_webs(row):
                    self.assertFits(web_with(order), order)

    def test_contrary_numbers(self):
        for row in rows_to_try():
            other = tuple(len(row) - 1 - number for number in row)
            self.assertIs(is_webs(other), is_webs(row))
            if is_webs(row):
                self.assertFits(contrary(web_with(row)), other)

    def test_by_name_and_again(self):
        for _ in range(2):
            self.assertSame(web_with(row=(1, 3, 1, 1)), (4, ((0, 1), (1, 2), (1, 3))))
            self.assertIs(is_webs(row=(1, 3, 1, 1)), True)
            self.assertIs(is_webs(row=(3, 3, 1, 1)), False)
            self.assertIsNone(web_with(row=(3, 3, 1, 1)))
        rows = sample_rows(8, 20)
        first = [web_with(row) for row in rows]
        self.assertSame([web_with(row) for row in reversed(rows)][::-1], first)

    def test_what_is_returned_cannot_change(self):
        for row in sample_rows(9, 20):
            hash(web_with(row))


class Level(Case):

    def test_example(self):
        rows = ((2, 2, 2, 2), (3, 1, 1, 1), (0, 0), (1, 2, 2, 2, 1), (4, 4, 4, 4, 4), (0, 0, 0, 3))
        self.assertSame([level_of(row) for row in rows], [2, 1, 0, 2, 4, 0])

    def test_two_people(self):
        self.assertSame([level_of(row) for row in all_rows(2)], [0, 0, 0, 1])

    def test_all_alike(self):
        for many in range(2, 11):
            for number in range(many):
                self.assertSame(level_of((number,) * many), number)

    def test_ten_people(self):
        self.assertSame(level_of((9, 9, 9, 9, 9, 4, 4, 4, 4, 4)), 4)
        self.assertSame(level_of((9, 9, 9, 9, 9, 5, 4, 4, 4, 4)), 5)
        self.assertSame(level_of((0, 0, 0, 0, 0, 0, 0, 0, 0, 9)), 0)
        self.assertSame(level_of((9, 8, 7, 6, 5, 4, 3, 2, 1, 0)), 4)
        self.assertSame(level_of((9, 9, 9, 9, 9, 9, 9, 9, 9, 8)), 8)

    def test_all_rows(self):
        for row in rows_to_try():
            self.assertSame(level_of(row), told_level(row))

    def test_in_any_order(self):
        for row in rows_to_try():
            for order in orders_of(row):
                self.assertSame(level_of(order), level_of(row))

    def test_by_name_and_again(self):
        for _ in range(2):
            self.assertSame(level_of(row=(3, 1, 1, 1)), 1)
            self.assertSame(level_of(row=(0, 0, 0, 3)), 0)


class Steps(Case):

    def check(self, row):
        level = level_of(row)
        for a, b in itertools.combinations(range(len(row)), 2):
            if row[a] == row[b] and row[a] != level:
                step = 1 if row[a] < level else -1
                other = tuple(d + step if p in (a, b) else d for p, d in enumerate(row))
                self.assertIs(is_webs(other), True, (row, other))
                self.assertSame(level_of(other), level)

    def test_all_rows_of_few_webs(self):
        for many in range(2, 6):
            for row in sorted({told_numbers(web) for web in all_webs(many)}):
                self.check(row)

    def test_rows_of_more(self):
        for many in range(6, 11):
            for web in sample_webs(many, 40):
                self.check(told_numbers(web))

    def test_all_pairs_come_to_the_level(self):
        chance = random.Random(5)
        for web in webs_to_try():
            row = list(told_numbers(web))
            level = level_of(tuple(row))
            alike = {d: [p for p in range(web[0]) if row[p] == d] for d in set(row)}
            pairs = [tuple(people[k:k + 2]) for people in alike.values() for k in range(0, len(people) - 1, 2)]
            while any(row[a] != level for a, _ in pairs):
                a, b = chance.choice([pair for pair in pairs if row[pair[0]] != level])
                step = 1 if row[a] < level else -1
                row[a] += step
                row[b] += step
                self.assertIs(is_webs(tuple(row)), True)
                self.assertSame(level_of(tuple(row)), level)


if __name__ == "__main__":
    unittest.main()
