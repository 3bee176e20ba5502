"""odd_set, set_error, set_count, set_at, number_of_set, web_for."""

import copy
import itertools
import random
import unittest

from oddlines.bounds import MAX_COUNTED
from oddlines.errors import Unfit
from oddlines.oddsets import number_of_set, odd_set, set_at, set_count, set_error, web_for
from oddlines.webs import contrary, renamed
from support import (
    PAIR, PATH, SQUARE, STAR, Case, all_odd_sets, all_webs, empty_web, full_web, is_odd_set, is_web, nested,
    orders_to_try, sample_webs, strings_of_all_kinds, told_odd_set, values_of_all_kinds, webs_to_try,
)

LARGE = (11, 12, 13, 50, 99, 100, 101, 500, 997, 998, 999, 1000)


def told_error(many, value):
    """What [E3] tells, by the repr of items: there True is not 1."""
    if type(value) is not tuple:
        return "form"
    right = [repr(number) for number in range(many)]
    names = [repr(item) for item in value]
    if any(name not in right for name in names) or list(value) != sorted(set(value)):
        return "form"
    if len(value) % 2 != many % 2:
        return "parity"
    if sum(value) % 2:
        return "sum"
    return "ends" if {0, many - 1} <= set(value) else None


class OddSet(Case):

    def test_example(self):
        self.assertSame([odd_set(web) for web in (SQUARE, STAR, PAIR, PATH)], [(), (1, 3), (), (2,)])

    def test_all_webs_of_few_people_and_larger_ones(self):
        for web in webs_to_try() + all_webs(5):
            self.assertSame(odd_set(web), told_odd_set(web))

    def test_without_lines_and_with_all(self):
        for many in range(2, 11):
            odd = many % 2 == 1
            self.assertSame(odd_set(empty_web(many)), (0,) if odd else ())
            self.assertSame(odd_set(full_web(many)), (many - 1,) if odd else ())

    def test_just_the_odd_sets_that_there_are(self):
        for many in range(2, 6):
            told = {odd_set(web) for web in all_webs(many)}
            self.assertEqual(sorted(told), all_odd_sets(many))
        for many in range(6, 11):
            for web in sample_webs(many, 30):
                self.assertTrue(is_odd_set(many, odd_set(web)))
                self.assertLessEqual(len(odd_set(web)), many - 2)

    def test_contrary_and_renamed_webs(self):
        for web in webs_to_try():
            wanted = tuple(sorted(web[0] - 1 - number for number in odd_set(web)))
            self.assertSame(odd_set(contrary(web)), wanted)
            for order in orders_to_try(web[0])[:6]:
                self.assertSame(odd_set(renamed(web, order)), odd_set(web))


class SetError(Case):

    def test_example(self):
        values = ((), (0, 2), (1, 3), (1,), (0, 3), (0, 1, 2, 3), (1, 1), (3, 1), (0, 4), [1, 3], (True, 3))
        self.assertSame(
            [set_error(4, value) for value in values],
            [None, None, None, "parity", "sum", "ends", "form", "form", "form", "form", "form"],
        )
        self.assertIsNone(set_error(5, (2,)))
        self.assertSame(set_error(5, (0, 2, 4)), "ends")
        self.assertSame(set_error(5, (0, 4)), "parity")
        self.assertIsNone(set_error(1000, (0, 998)))
        self.assertSame(set_error(1000, (0, 999)), "sum")

    def test_all_tuples_of_few_items(self):
        for many in (2, 3, 4, 5):
            for size in range(4):
                for value in itertools.product(range(-1, many + 1), repeat=size):
                    self.assertSame(set_error(many, value), told_error(many, value))

    def test_all_ascending_tuples(self):
        for many in range(2, 11):
            for size in range(many + 1):
                for value in itertools.combinations(range(many), size):
                    wanted = told_error(many, value)
                    self.assertSame(set_error(many, value), wanted)
                    self.assertIs(wanted is None, is_odd_set(many, value))

    def test_each_word_and_the_first_that_applies(self):
        self.assertSame(set_error(6, (0, 1, 5)), "parity")
        self.assertSame(set_error(6, (0, 5)), "sum")
        self.assertSame(set_error(6, (0, 1, 4, 5)), "ends")
        self.assertSame(set_error(5, (0, 4)), "parity")
        self.assertSame(set_error(5, (0, 1, 4)), "sum")
        self.assertSame(set_error(5, (0, 5)), "form")
        self.assertSame(set_error(5, (4, 0)), "form")
        self.assertSame(set_error(2, (0, 1)), "sum")
        self.assertSame(set_error(3, (0,)), None)

    def test_kinds_of_items(self):
        pool = (0, 1, 2, 3, True, False, None, "1", (1,), [1], {})
        for many in (3, 4):
            for size in (1, 2):
                for value in itertools.product(pool, repeat=size):
                    wanted = "form"
                    if all(type(item) is int for item in value):
                        wanted = told_error(many, value)
                    self.assertSame(set_error(many, value), wanted)

    def test_values_of_all_kinds(self):
        for value in values_of_all_kinds() + strings_of_all_kinds() + [nested(4), {0: 1, 2: 3}, {1, 3}]:
            for many in (2, 4, 1000):
                wanted = "form"
                if type(value) is tuple and all(type(item) is int for item in value):
                    wanted = told_error(many, value)
                self.assertSame(set_error(many, value), wanted)

    def test_many_people(self):
        for many in LARGE:
            self.assertSame(set_error(many, (many,)), "form")
            self.assertSame(set_error(many, (0, 2) if many % 2 else (2,)), "parity")
            self.assertSame(set_error(many, tuple(range(many))), "ends" if many * (many - 1) // 2 % 2 == 0 else "sum")
            self.assertSame(set_error(many, (1, 3, 10 ** 399)), "form")
            self.assertSame(set_error(many, (-2, 0)), "form")


class Numbers(Case):

    def test_example(self):
        self.assertSame([set_count(many) for many in (2, 3, 4, 5, 6, 20)], [1, 2, 3, 6, 12, 196608])
        self.assertSame(set_count(1000), 3 * 2 ** 996)
        self.assertSame([set_at(4, number) for number in range(3)], [(), (0, 2), (1, 3)])
        self.assertSame(
            [set_at(5, number) for number in range(6)], [(0,), (0, 1, 3), (1, 2, 3), (1, 3, 4), (2,), (4,)]
        )
        self.assertSame(set_at(2, 0), ())
        self.assertSame((number_of_set(5, (1, 3, 4)), number_of_set(4, ())), (3, 0))
        self.assertSame((set_at(1000, set_count(1000) - 1), set_at(1000, 0)), ((997, 999), ()))
        self.assertUnfit(set_at, 5, 6)
        self.assertUnfit(set_at, 5, True)
        self.assertUnfit(number_of_set, 5, (1, 3))

    def test_all_odd_sets_of_few_people(self):
        for many in range(2, 14):
            told = all_odd_sets(many)
            self.assertSame(set_count(many), len(told))
            self.assertSame([set_at(many, number) for number in range(len(told))], told)
            self.assertSame([number_of_set(many, chosen) for chosen in told], list(range(len(told))))

    def test_counts(self):
        for many in range(4, 1001):
            self.assertEqual(set_count(many), 3 * 2 ** (many - 4))
        self.assertSame((set_count(2), set_count(3)), (1, 2))
        self.assertEqual(MAX_COUNTED, 1000)

    def test_at_the_ends(self):
        for many in LARGE:
            last = set_count(many) - 1
            near = [set_at(many, number) for number in range(9)]
            far = [set_at(many, number) for number in range(last - 8, last + 1)]
            for told in (near, far):
                self.assertEqual(told, sorted(set(told)))
                self.assertTrue(all(is_odd_set(many, chosen) for chosen in told))
            self.assertSame([number_of_set(many, chosen) for chosen in near], list(range(9)))
            self.assertSame([number_of_set(many, chosen) for chosen in far], list(range(last - 8, last + 1)))
            self.assertUnfit(set_at, many, last + 1)
            self.assertUnfit(set_at, many, -1)

    def test_the_first_ones_and_the_last_ones_of_many(self):
        self.assertSame([set_at(1000, number) for number in range(3)], [
            (), (0, 1, 2, 3), (0, 1, 2, 3, 4, 5, 6, 7),
        ])
        self.assertSame([set_at(1000, set_count(1000) - number) for number in (1, 2, 3)], [
            (997, 999), (996, 998), (996, 997, 998, 999),
        ])
        self.assertSame(set_at(999, 0), (0,))
        self.assertSame(set_at(999, set_count(999) - 1), (998,))

    def test_in_between(self):
        chance = random.Random(4)
        for many in LARGE:
            told = sorted(chance.randrange(set_count(many)) for _ in range(6))
            chosen = [set_at(many, number) for number in told]
            self.assertEqual(chosen, sorted(chosen))
            self.assertTrue(all(is_odd_set(many, some) for some in chosen))
            self.assertSame([number_of_set(many, some) for some in chosen], told)

    def test_neighbours(self):
        chance = random.Random(6)
        for many in (20, 100, 1000):
            for _ in range(4):
                number = chance.randrange(1, set_count(many) - 1)
                three = [set_at(many, number + step) for step in (-1, 0, 1)]
                self.assertEqual(three, sorted(set(three)))
                self.assertSame([number_of_set(many, some) for some in three], [number - 1, number, number + 1])

    def test_numbers_that_are_none(self):
        for many in (2, 3, 4, 5, 10, 1000):
            for value in values_of_all_kinds() + strings_of_all_kinds():
                if type(value) is not int or not 0 <= value < set_count(many):
                    self.assertUnfit(set_at, many, value)
            for value in (True, False, "0", (0,), [0], None, -1, set_count(many), 10 ** 399, b"0"):
                if type(value) is not int or value < 0 or value >= set_count(many):
                    self.assertUnfit(set_at, many, value)
        self.assertUnfit(set_at, 2, 1)
        self.assertUnfit(set_at, 3, 2)

    def test_sets_that_are_none(self):
        for many in (2, 3, 4, 5, 6):
            for size in range(many + 1):
                for chosen in itertools.product(range(-1, many + 1), repeat=min(size, 3)):
                    if not is_odd_set(many, chosen):
                        self.assertUnfit(number_of_set, many, chosen)
        for value in values_of_all_kinds() + strings_of_all_kinds() + [[1, 3], (True, 3), (1, 3.0), {1: 3}]:
            if value != ():
                self.assertUnfit(number_of_set, 4, value)
            self.assertUnfit(number_of_set, 5, value)
        self.assertUnfit(number_of_set, 1000, (0, 999))
        self.assertUnfit(number_of_set, 1000, (0, 1000))


class WebFor(Case):

    def check(self, many, chosen):
        web = web_for(many, chosen)
        self.assertTrue(is_web(web), web)
        self.assertSame(web[0], many)
        self.assertSame(told_odd_set(web), chosen)

    def test_example(self):
        self.assertSame(
            [odd_set(web_for(5, set_at(5, number))) for number in range(6)],
            [(0,), (0, 1, 3), (1, 2, 3), (1, 3, 4), (2,), (4,)],
        )
        self.assertIn(web_for(2, ()), ((2, ()), (2, ((0, 1),))))
        self.assertIn(web_for(3, (0,)), [(3, some) for some in ((), ((0, 1),), ((0, 2),), ((1, 2),))])
        self.assertUnfit(web_for, 4, (0, 3))

    def test_all_odd_sets_of_two_people_to_ten(self):
        for many in range(2, 11):
            for chosen in all_odd_sets(many):
                self.check(many, chosen)

    def test_sets_that_are_none(self):
        for many in range(2, 8):
            for size in range(many + 1):
                for chosen in itertools.combinations(range(many + 1), size):
                    if not is_odd_set(many, chosen):
                        self.assertUnfit(web_for, many, chosen)
        for value in values_of_all_kinds() + strings_of_all_kinds() + [[1, 3], (True, 3), (3, 1), (1, 1), {1: 3}]:
            if value != ():
                self.assertUnfit(web_for, 4, value)
            self.assertUnfit(web_for, 7, value)


class Calls(Case):

    def test_by_name(self):
        self.assertSame(odd_set(web=STAR), (1, 3))
        self.assertSame(set_error(value=(1,), many=4), "parity")
        self.assertSame(set_count(many=6), 12)
        self.assertSame(set_at(number=3, many=5), (1, 3, 4))
        self.assertSame(number_of_set(chosen=(1, 3, 4), many=5), 3)
        self.assertSame(odd_set(web_for(chosen=(1, 3), many=4)), (1, 3))
        for call in (lambda: set_at(many=5, number=6), lambda: number_of_set(many=5, chosen=6)):
            self.assertUnfit(call)
        self.assertUnfit(lambda: web_for(many=5, chosen=None))

    def test_again(self):
        for _ in range(3):
            self.assertSame(set_at(5, 1), (0, 1, 3))
            self.assertUnfit(set_at, 5, True)
            self.assertSame(number_of_set(4, (1, 3)), 2)
            self.assertUnfit(number_of_set, 4, (True, 3))
            self.assertUnfit(web_for, 4, (True, 3))
            self.assertSame(web_for(7, (1, 2, 3)), web_for(7, (1, 2, 3)))
            self.assertSame(set_error(4, (True, 3)), "form")
            self.assertIsNone(set_error(4, (1, 3)))

    def test_what_is_returned_cannot_change(self):
        for told in (odd_set(STAR), set_at(1000, 5), web_for(10, (1, 3))):
            hash(told)

    def test_what_is_handed_in_stays(self):
        for value in values_of_all_kinds():
            before = copy.deepcopy(value)
            set_error(4, value)
            for call in (set_at, number_of_set, web_for):
                try:
                    call(4, value)
                except Unfit:
                    pass
            self.assertSame(value, before)


if __name__ == "__main__":
    unittest.main()
