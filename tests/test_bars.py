"""bar and bar_error, and that each row has just one of a web and a bar."""

import copy
import itertools
import unittest

from oddlines.bars import bar, bar_error
from oddlines.rows import is_webs, web_with
from support import (
    Case, all_rows, all_webs, is_web, nested, rows_to_try, sample_rows, sample_webs, strings_of_all_kinds,
    told_bar_error, told_numbers, values_of_all_kinds,
)


def all_lots(many):
    """All pairs of ascending tuples of people, nobody in both."""
    lots = []
    for places in itertools.product((0, 1, 2), repeat=many):
        high = tuple(person for person in range(many) if places[person] == 1)
        lots.append((high, tuple(person for person in range(many) if places[person] == 2)))
    return lots


class Examples(Case):

    def test_first(self):
        self.assertIsNone(bar((2, 2, 2, 2)))
        self.assertIsNone(bar_error((3, 3, 1, 1), bar((3, 3, 1, 1))))
        self.assertIsNone(bar_error((1, 1, 1), bar((1, 1, 1))))

    def test_second(self):
        values = (((0, 1), (2, 3)), ((0, 1), (2,)), ((0, 1), ()), ((), (2, 3)), "odd")
        self.assertSame(
            [bar_error((3, 3, 1, 1), value) for value in values], [None, None, "little", "little", "even"]
        )

    def test_third(self):
        values = (
            ((1, 0), ()), ((0, 1), (1, 2)), ((0, 4), ()), ((0, 1),), [(0, 1), (2, 3)], ((0, True), ()), "Odd", None,
        )
        self.assertSame([bar_error((3, 3, 1, 1), value) for value in values], ["form"] * 8)

    def test_fourth(self):
        self.assertIsNone(bar_error((3, 2, 1, 0), ((0,), (3,))))
        self.assertIsNone(bar_error((3, 3, 3, 0), "odd"))
        self.assertIsNone(bar_error((3, 3, 3, 0), ((0,), (3,))))
        self.assertSame(bar_error((2, 2, 2, 2), ((0,), ())), "little")


class JustOne(Case):

    def check(self, row):
        """There is a web with these numbers, or a bar, and never both."""
        told, web = bar(row), web_with(row)
        self.assertIs(is_webs(row), told is None)
        if told is None:
            self.assertTrue(is_web(web))
            self.assertSame(told_numbers(web), row)
        else:
            self.assertIsNone(web)
            self.assertIsNone(told_bar_error(row, told), (row, told))
            self.assertIsNone(bar_error(row, told), (row, told))

    def test_all_rows_of_few_numbers(self):
        for many in range(2, 6):
            for row in all_rows(many):
                self.check(row)

    def test_rows_of_up_to_ten_numbers(self):
        for row in rows_to_try():
            self.check(row)

    def test_rows_of_drawn_webs(self):
        for web in sample_webs(10, 300):
            self.assertIsNone(bar(told_numbers(web)))
            self.check(told_numbers(web))

    def test_rows_with_many_alike(self):
        for many in (5, 7, 10):
            for high, low, size in itertools.product(range(many), range(many), range(many + 1)):
                self.check((high,) * size + (low,) * (many - size))

    def test_sorted_rows_of_six(self):
        for row in itertools.combinations_with_replacement(range(6), 6):
            self.check(row)

    def test_no_web_has_a_bar(self):
        for many in range(2, 5):
            rows = {told_numbers(web) for web in all_webs(many)}
            for row in sorted(rows):
                self.assertIsNone(bar(row))
                for lots in all_lots(many):
                    self.assertSame(bar_error(row, lots), "little")
                self.assertSame(bar_error(row, "odd"), "even")

    def test_odd_sums(self):
        for row in rows_to_try():
            self.assertSame(bar_error(row, "odd"), None if sum(row) % 2 else "even")
            if sum(row) % 2:
                self.assertIsNone(bar_error(row, bar(row)))

    def test_even_sums_have_lots(self):
        for row in sample_rows(10, 200):
            told = bar(row)
            if told is not None and sum(row) % 2 == 0:
                self.assertEqual(len(told), 2)
                self.assertIsNone(told_bar_error(row, told))


class Orders(Case):

    def test_other_orders(self):
        for row in rows_to_try():
            for order in (row[::-1], tuple(sorted(row)), tuple(sorted(row, reverse=True)), row[1:] + row[:1]):
                told = bar(order)
                self.assertIs(told is None, bar(row) is None)
                if told is not None:
                    self.assertIsNone(told_bar_error(order, told))

    def test_contrary_numbers_have_the_bar_turned_about(self):
        for row in rows_to_try():
            other = tuple(len(row) - 1 - number for number in row)
            told = bar(row)
            self.assertIs(bar(other) is None, told is None)
            if told is not None and told != "odd":
                self.assertIsNone(bar_error(other, told[::-1]))

    def test_all_lots_of_all_rows_of_four(self):
        for row in all_rows(4):
            other = tuple(3 - number for number in row)
            for high, low in all_lots(4):
                self.assertSame(bar_error(row, (high, low)), told_bar_error(row, (high, low)))
                self.assertSame(bar_error(other, (low, high)), bar_error(row, (high, low)))


class BarError(Case):

    def test_just_at_the_bound_and_beyond(self):
        # 0 wants four lines, and there are four others; without 4, who wants none, just three.
        row = (4, 1, 1, 1, 0)
        self.assertSame(bar_error(row, ((0,), ())), "little")
        self.assertIsNone(bar_error(row, ((0,), (4,))))
        self.assertSame(bar_error(row, ((0,), (3,))), "little")
        self.assertSame(bar_error((9,) * 10, (tuple(range(10)), ())), "little")
        self.assertIsNone(bar_error((9,) * 9 + (8,), (tuple(range(9)), (9,))))

    def test_nobody(self):
        for row in ((0, 0), (1, 0), (3, 3, 1, 1), (9,) * 10):
            self.assertSame(bar_error(row, ((), ())), "little")

    def test_pairs_of_all_kinds_of_tuples(self):
        pool = [
            (), (0,), (1,), (2,), (0, 1), (1, 2), (0, 2), (0, 1, 2), (1, 0), (0, 0), (2, 1), (3,), (0, 3), (-1,),
            (-1, 0), (True,), (0, True), (False,), (False, 1), ("0",), (None,), ((0,),), [0], [], "0", "", None, 0,
            {}, {0: 1}, (10 ** 399,), (0, 1, 2, 2), (0, 1, 2, 3),
        ]
        for row in ((2, 0, 0), (1, 1, 1), (2, 2, 2), (2, 1, 0), (0, 2, 2)):
            for high, low in itertools.product(pool, repeat=2):
                value = (high, low)
                self.assertSame(bar_error(row, value), told_bar_error(row, value), value)

    def test_in_both(self):
        for both in ((0,), (1,), (0, 1), (1, 2), (0, 1, 2, 3)):
            self.assertSame(bar_error((3, 3, 1, 1), (both, both)), "form")
            self.assertSame(bar_error((3, 3, 1, 1), (both, (1, 3))), "form" if 1 in both else "little")

    def test_triples_lists_and_more(self):
        good = ((0, 1), (2, 3))
        for value in (
            list(good), good + ((),), good[:1], (list(good[0]), good[1]), (good[0], list(good[1])), (good,),
            (good, ()), ("odd",), ["odd"], ("odd", ()), ("odd", "odd"), {"odd": 1}, b"odd", "odd ", " odd", "ODD",
            "od", "oddodd", "even", "form", (0, 1), (0, (2, 3)), ((0, 1), 2),
        ):
            self.assertSame(bar_error((3, 3, 1, 1), value), "form", value)
            self.assertSame(bar_error((3, 3, 1, 0), value), "form", value)

    def test_values_of_all_kinds(self):
        for row in ((3, 3, 1, 1), (1, 0), (9,) * 10):
            for value in values_of_all_kinds() + strings_of_all_kinds() + [nested(3), (nested(5), ())]:
                self.assertSame(bar_error(row, value), told_bar_error(row, value), repr(value)[:80])

    def test_form_ahead_of_little_and_even(self):
        self.assertSame(bar_error((2, 2, 2, 2), ((1, 0), ())), "form")
        self.assertSame(bar_error((2, 2, 2, 2), "Odd"), "form")
        self.assertSame(bar_error((2, 2, 2, 2), "odd"), "even")
        self.assertSame(bar_error((2, 2, 2, 2), ((0, 1), ())), "little")


class Calls(Case):

    def test_by_name_and_again(self):
        for _ in range(2):
            self.assertIsNone(bar(row=(2, 2, 2, 2)))
            told = bar(row=(3, 3, 1, 1))
            self.assertIsNone(bar_error(row=(3, 3, 1, 1), value=told))
            self.assertSame(bar_error(value=((0,), ()), row=(2, 2, 2, 2)), "little")
            self.assertSame(bar_error(value=((False,), ()), row=(2, 2, 2, 2)), "form")
        rows = sample_rows(8, 20)
        first = [bar(row) for row in rows]
        self.assertSame([bar(row) for row in reversed(rows)][::-1], first)

    def test_what_is_returned_cannot_change(self):
        for row in sample_rows(9, 20):
            hash(bar(row))

    def test_what_is_handed_in_stays(self):
        for value in values_of_all_kinds():
            before = copy.deepcopy(value)
            bar_error((2, 2, 2, 2), value)
            self.assertSame(value, before)


if __name__ == "__main__":
    unittest.main()
