"""spreads, fewest and most: the rows of all webs of one odd set."""

import unittest

from oddlines.bounds import MAX_SPREAD
from oddlines.errors import TooMany
from oddlines.spreads import fewest, most, spreads
from support import (
    Case, all_odd_sets, all_rows, all_webs, is_web, sample_webs, told_is_webs, told_numbers, told_odd_set, told_spreads,
)

FEW = range(2, 8)


def contrary_set(many, chosen):
    return tuple(sorted(many - 1 - number for number in chosen))


def stepped(row):
    """All rows, descending, to which one step of two equal numbers leads."""
    found = set()
    for number in set(row):
        if row.count(number) > 1:
            for by in (1, -1):
                left = list(row)
                left.remove(number)
                left.remove(number)
                found.add(tuple(sorted(left + [number + by] * 2, reverse=True)))
    return found


class Examples(Case):

    def test_spreads(self):
        self.assertSame(
            spreads(4, ()),
            ((0, 0, 0, 0), (1, 1, 0, 0), (1, 1, 1, 1), (2, 2, 1, 1), (2, 2, 2, 2), (3, 3, 2, 2), (3, 3, 3, 3)),
        )
        self.assertSame(spreads(4, (1, 3)), ((3, 1, 1, 1), (3, 2, 2, 1)))
        self.assertSame(spreads(4, (0, 2)), ((2, 1, 1, 0), (2, 2, 2, 0)))
        self.assertSame((len(spreads(5, (2,))), len(spreads(5, (0, 1, 3)))), (10, 2))

    def test_fewest_and_most(self):
        self.assertSame(fewest(4, ()), (0, (4, ())))
        self.assertSame([most(4, ())[0], fewest(4, (1, 3))[0], most(4, (1, 3))[0]], [6, 3, 4])
        self.assertSame([fewest(5, (2,))[0], most(5, (2,))[0]], [2, 8])
        web = most(5, (2,))[1]
        self.assertSame((told_odd_set(web), sorted(told_numbers(web))), ((2,), [2, 3, 3, 4, 4]))

    def test_too_many(self):
        with self.assertRaises(TooMany) as caught:
            spreads(8, ())
        self.assertSame(caught.exception.limit, 7)


class Spreads(Case):

    def test_beside_all_webs_of_few_people(self):
        for many in range(2, 7):
            found = {}
            for web in all_webs(many):
                row = tuple(sorted(told_numbers(web), reverse=True))
                found.setdefault(told_odd_set(web), set()).add(row)
            self.assertEqual(sorted(found), all_odd_sets(many))
            for chosen, rows in found.items():
                self.assertSame(spreads(many, chosen), tuple(sorted(rows)))

    def test_all_odd_sets_of_two_people_to_seven(self):
        for many in FEW:
            for chosen in all_odd_sets(many):
                told = spreads(many, chosen)
                self.assertSame(told, tuple(sorted(told_spreads(many)[chosen])))
                self.assertEqual(list(told), sorted(set(told)))
                for row in told:
                    self.assertEqual(list(row), sorted(row, reverse=True))
                    self.assertEqual(len(row), many)

    def test_put_together_they_are_all_rows_of_webs(self):
        for many in range(2, 6):
            rows = {tuple(sorted(row, reverse=True)) for row in all_rows(many) if told_is_webs(row)}
            told = [row for chosen in all_odd_sets(many) for row in spreads(many, chosen)]
            self.assertEqual(sorted(told), sorted(rows))
        for many in (6, 7):
            told = [row for chosen in all_odd_sets(many) for row in spreads(many, chosen)]
            self.assertEqual(sorted(told), sorted(row for rows in told_spreads(many).values() for row in rows))

    def test_drawn_webs(self):
        for many in FEW:
            for web in sample_webs(many, 40):
                row = tuple(sorted(told_numbers(web), reverse=True))
                self.assertIn(row, spreads(many, told_odd_set(web)))

    def test_steps_lead_from_each_to_each_other(self):
        for many in FEW:
            for chosen in all_odd_sets(many):
                rows = set(spreads(many, chosen))
                found = [min(rows)]
                for row in found:
                    found += sorted((stepped(row) & rows) - set(found))
                self.assertEqual(sorted(found), sorted(rows))

    def test_contrary_odd_sets(self):
        for many in FEW:
            for chosen in all_odd_sets(many):
                other = [tuple(many - 1 - number for number in row[::-1]) for row in spreads(many, chosen)]
                self.assertSame(spreads(many, contrary_set(many, chosen)), tuple(sorted(other)))


class Ends(Case):

    def test_webs_of_fewest_and_most(self):
        for many in FEW:
            for chosen in all_odd_sets(many):
                sums = [sum(row) for row in told_spreads(many)[chosen]]
                for told, wanted in ((fewest(many, chosen), min(sums)), (most(many, chosen), max(sums))):
                    self.assertIs(type(told), tuple)
                    count, web = told
                    self.assertTrue(is_web(web))
                    self.assertSame((web[0], told_odd_set(web)), (many, chosen))
                    self.assertSame((count, len(web[1])), (wanted // 2, wanted // 2))

    def test_beside_all_webs_of_few_people(self):
        for many in range(2, 6):
            counts = {}
            for web in all_webs(many):
                counts.setdefault(told_odd_set(web), set()).add(len(web[1]))
            for chosen, found in counts.items():
                self.assertSame((fewest(many, chosen)[0], most(many, chosen)[0]), (min(found), max(found)))

    def test_all_numbers_of_lines_between_come(self):
        for many in FEW:
            for chosen in all_odd_sets(many):
                found = {sum(row) // 2 for row in spreads(many, chosen)}
                self.assertEqual(found, set(range(fewest(many, chosen)[0], most(many, chosen)[0] + 1)))

    def test_contrary_odd_sets(self):
        for many in FEW:
            for chosen in all_odd_sets(many):
                other = contrary_set(many, chosen)
                self.assertSame(fewest(many, other)[0], many * (many - 1) // 2 - most(many, chosen)[0])

    def test_without_lines_and_with_all(self):
        for many in (2, 4, 6):
            self.assertSame((fewest(many, ())[1][1], most(many, ())[0]), ((), many * (many - 1) // 2))
        for many in (3, 5, 7):
            self.assertSame(fewest(many, (0,)), (0, (many, ())))
            self.assertSame(most(many, (many - 1,))[0], many * (many - 1) // 2)


class TooManyPeople(Case):

    def test_from_eight_people_on(self):
        self.assertEqual(MAX_SPREAD, 7)
        for many in (8, 9, 10):
            for chosen in all_odd_sets(many)[::9]:
                for call in (spreads, fewest, most):
                    with self.assertRaises(TooMany) as caught:
                        call(many, chosen)
                    self.assertIs(type(caught.exception), TooMany)
                    self.assertSame(caught.exception.limit, 7)


class Calls(Case):

    def test_by_name_and_again(self):
        for _ in range(2):
            self.assertSame(spreads(chosen=(1, 3), many=4), ((3, 1, 1, 1), (3, 2, 2, 1)))
            self.assertSame(fewest(many=4, chosen=()), (0, (4, ())))
            self.assertSame(most(chosen=(1, 3), many=4), most(4, (1, 3)))
            self.assertSame(fewest(7, (1, 2, 3)), fewest(7, (1, 2, 3)))
            with self.assertRaises(TooMany):
                most(many=9, chosen=(2,))

    def test_what_is_returned_cannot_change(self):
        for told in (spreads(7, (2,)), fewest(7, (2,)), most(7, (2,))):
            hash(told)


if __name__ == "__main__":
    unittest.main()
