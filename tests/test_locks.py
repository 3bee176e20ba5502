"""trial_row, locked and thrice: which numbers of an odd set no web has three times."""

import copy
import unittest

from oddlines.errors import Unfit
from oddlines.locks import locked, thrice, trial_row
from oddlines.rows import is_webs, row_error
from support import (
    Case, all_odd_sets, all_webs, is_web, nested, sample_webs, strings_of_all_kinds, told_is_webs, told_locked,
    told_numbers, told_odd_set, told_spreads, values_of_all_kinds, webs_to_try,
)

MANY = range(2, 11)


def most_often(many):
    """By odd sets, how often each of their numbers is had in a web of so many people, going through all webs."""
    found = {}
    for web in all_webs(many):
        row, chosen = told_numbers(web), told_odd_set(web)
        counts = found.setdefault(chosen, dict.fromkeys(chosen, 0))
        for number in chosen:
            counts[number] = max(counts[number], row.count(number))
    return found


class TrialRow(Case):

    def test_example(self):
        self.assertSame(
            (trial_row(4, (1, 3), 3, 0), trial_row(4, (1, 3), 1, 2), trial_row(5, (2,), 2, 0)),
            ((1, 3, 3, 3), (1, 3, 1, 1), (2, 2, 2, 0, 0)),
        )
        self.assertSame(trial_row(6, (0, 4), 4, 3), (0, 4, 4, 4, 3, 3))

    def test_all_odd_sets_numbers_and_c(self):
        for many in MANY:
            for chosen in all_odd_sets(many):
                for number in range(many):
                    for c in range(many):
                        row = trial_row(many, chosen, number, c)
                        wanted = list(chosen) + [number] * 2
                        wanted += [c] * (many - len(wanted))
                        self.assertSame(row, tuple(wanted))

    def test_they_are_rows_with_the_odd_set(self):
        for many in MANY:
            for chosen in all_odd_sets(many)[::3]:
                for number in range(many):
                    row = trial_row(many, chosen, number, many - 1 - number)
                    self.assertIsNone(row_error(many, row))
                    self.assertSame(tuple(d for d in range(many) if row.count(d) % 2), chosen)

    def test_without_others_c_does_not_matter(self):
        for many in MANY:
            for chosen in all_odd_sets(many):
                for number in range(many):
                    rows = {trial_row(many, chosen, number, c) for c in range(many)}
                    self.assertEqual(len(rows), 1 if len(chosen) == many - 2 else many)

    def test_trial_rows_that_are_webs(self):
        for chosen in all_odd_sets(7):
            for number in range(7):
                for c in range(7):
                    row = trial_row(7, chosen, number, c)
                    self.assertIs(is_webs(row), told_is_webs(row))

    def test_two_and_three_people(self):
        self.assertSame([trial_row(2, (), 1, c) for c in range(2)], [(1, 1), (1, 1)])
        self.assertSame([trial_row(3, (2,), 0, c) for c in range(3)], [(2, 0, 0)] * 3)


class Locked(Case):

    def test_example(self):
        asked = ((4, ()), (4, (0, 2)), (4, (1, 3)), (5, (2,)), (5, (0, 1, 3)), (6, (0, 4)), (6, (0, 1, 3, 4)))
        self.assertSame(
            [locked(many, chosen) for many, chosen in asked], [(), (0,), (3,), (), (0, 3), (0,), (0, 1, 4)]
        )

    def test_beside_all_webs_of_few_people(self):
        for many in range(2, 7):
            for chosen, counts in most_often(many).items():
                wanted = tuple(number for number in chosen if counts[number] < 3)
                self.assertSame(locked(many, chosen), wanted, (many, chosen))
                for number in wanted:
                    self.assertEqual(counts[number], 1)

    def test_beside_all_rows_of_webs_of_two_people_to_ten(self):
        for many in MANY:
            self.assertEqual(sorted(told_spreads(many)), all_odd_sets(many))
            for chosen in all_odd_sets(many):
                self.assertSame(locked(many, chosen), told_locked(many, chosen), (many, chosen))

    def test_told_by_trials(self):
        for many in range(2, 9):
            for chosen in all_odd_sets(many):
                for number in chosen:
                    rows = [trial_row(many, chosen, number, c) for c in range(many)]
                    self.assertIs(number in locked(many, chosen), not any(told_is_webs(row) for row in rows))

    def test_contrary_odd_sets(self):
        for many in MANY:
            for chosen in all_odd_sets(many):
                other = tuple(sorted(many - 1 - number for number in chosen))
                wanted = tuple(sorted(many - 1 - number for number in locked(many, chosen)))
                self.assertSame(locked(many, other), wanted)

    def test_a_locked_number_is_had_once(self):
        for web in webs_to_try() + [web for many in MANY for web in sample_webs(many, 40)]:
            for number in locked(web[0], told_odd_set(web)):
                self.assertEqual(told_numbers(web).count(number), 1)

    def test_none_to_seven_numbers_are_locked(self):
        self.assertSame((locked(2, ()), locked(3, (0,)), locked(3, (2,))), ((), (), ()))
        self.assertSame(locked(6, (1, 2, 4, 5)), (1, 4, 5))
        self.assertEqual(max(len(locked(10, chosen)) for chosen in all_odd_sets(10)), 7)


class Thrice(Case):

    def check(self, many, chosen, number):
        web = thrice(many, chosen, number)
        self.assertTrue(is_web(web), web)
        self.assertSame(web[0], many)
        self.assertSame(told_odd_set(web), chosen)
        self.assertGreaterEqual(told_numbers(web).count(number), 3)

    def test_example(self):
        self.assertSame(sorted(told_numbers(thrice(4, (1, 3), 1))), [1, 1, 1, 3])
        web = thrice(5, (2,), 2)
        self.assertSame(told_odd_set(web), (2,))
        self.assertIn(told_numbers(web).count(2), (3, 5))
        self.assertUnfit(thrice, 4, (1, 3), 3)
        self.assertUnfit(thrice, 4, (1, 3), 2)

    def test_all_odd_sets_and_their_numbers(self):
        for many in MANY:
            for chosen in all_odd_sets(many):
                for number in chosen:
                    if number in told_locked(many, chosen):
                        self.assertUnfit(thrice, many, chosen, number)
                    else:
                        self.check(many, chosen, number)

    def test_numbers_that_are_not_chosen(self):
        for many in MANY:
            for chosen in all_odd_sets(many)[::2]:
                for number in range(-2, many + 3):
                    if number not in chosen:
                        self.assertUnfit(thrice, many, chosen, number)

    def test_true_and_false_are_no_numbers(self):
        self.check(4, (1, 3), 1)
        self.assertUnfit(thrice, 4, (1, 3), True)
        self.check(3, (0,), 0)
        self.assertUnfit(thrice, 3, (0,), False)
        self.check(6, (1, 3), 1)
        self.assertUnfit(thrice, 6, (1, 3), True)
        self.assertUnfit(thrice, 4, (0, 2), False)

    def test_values_of_all_kinds(self):
        more = ["1", "3", (1,), [1], (1, 3), [1, 3], {1: 3}, nested(6), b"1", (True,), 10 ** 399, -1]
        for many, chosen in ((4, (1, 3)), (5, (4,)), (6, (1, 5)), (10, (0, 1, 2, 3)), (2, ())):
            for value in values_of_all_kinds() + strings_of_all_kinds() + more:
                if type(value) is not int or value not in chosen:
                    self.assertUnfit(thrice, many, chosen, value)


class Calls(Case):

    def test_by_name(self):
        self.assertSame(trial_row(many=6, chosen=(0, 4), number=4, c=3), (0, 4, 4, 4, 3, 3))
        self.assertSame(trial_row(c=2, number=1, chosen=(1, 3), many=4), (1, 3, 1, 1))
        self.assertSame(locked(chosen=(1, 3), many=4), (3,))
        self.assertSame(thrice(number=1, chosen=(1, 3), many=4), thrice(4, (1, 3), 1))
        self.assertUnfit(lambda: thrice(many=4, chosen=(1, 3), number=3))

    def test_again(self):
        for _ in range(3):
            self.assertUnfit(thrice, 4, (1, 3), True)
            self.assertUnfit(thrice, 4, (1, 3), 3)
            self.assertSame(thrice(4, (1, 3), 1), thrice(4, (1, 3), 1))
            self.assertSame(locked(6, (0, 1, 3, 4)), (0, 1, 4))
            self.assertSame(trial_row(5, (2,), 2, 0), (2, 2, 2, 0, 0))
        asked = [(8, chosen) for chosen in all_odd_sets(8)]
        first = [locked(*one) for one in asked]
        self.assertSame([locked(*one) for one in reversed(asked)][::-1], first)

    def test_what_is_returned_cannot_change(self):
        for told in (trial_row(5, (2,), 2, 0), locked(4, (1, 3)), thrice(5, (2,), 2)):
            hash(told)

    def test_what_is_handed_in_stays(self):
        for value in values_of_all_kinds():
            before = copy.deepcopy(value)
            try:
                thrice(4, (1, 3), value)
            except Unfit:
                pass
            self.assertSame(value, before)


if __name__ == "__main__":
    unittest.main()
