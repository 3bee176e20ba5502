"""holders, class_of, classes_of, class_count and class_web."""

import copy
import itertools
import math
import unittest

from oddlines.bounds import MAX_SPREAD
from oddlines.classes import class_count, class_of, class_web, classes_of, holders
from oddlines.deeds import done, draws, strikes
from oddlines.errors import TooMany, Unfit
from oddlines.locks import locked
from oddlines.oddsets import odd_set
from oddlines.webs import contrary, renamed
from pairs import deeds_in, joined_lots
from support import (
    PAIR, PATH, SQUARE, STAR, Case, all_odd_sets, all_webs, empty_web, full_web, is_web, orders_to_try, sample_webs,
    strings_of_all_kinds, told_class, told_locked, told_numbers, values_of_all_kinds,
)


def some_webs():
    """All webs of two people to five, and some of six to ten."""
    webs = [web for many in range(2, 6) for web in all_webs(many)]
    return webs + [web for many in range(6, 11) for web in sample_webs(many, 60)]


def all_people(many, size):
    """All tuples of so many unlike people."""
    return list(itertools.permutations(range(many), size))


class Examples(Case):

    def test_holders_and_class_of(self):
        self.assertSame([holders(web) for web in (SQUARE, STAR, PAIR, PATH)], [(), ((3, 0),), (), ()])
        self.assertSame((class_of(STAR), class_of(PATH)), ((4, (1, 3), (0,)), (5, (2,), ())))
        self.assertSame(class_of(SQUARE), class_of(PAIR))

    def test_counts(self):
        self.assertSame([classes_of(4, ()), classes_of(4, (1, 3)), classes_of(5, (0, 1, 3))], [1, 4, 20])
        self.assertSame(classes_of(6, (0, 1, 3, 4)), 120)
        self.assertSame([class_count(many) for many in (2, 3, 4, 5, 6, 7)], [1, 2, 9, 44, 270, 1902])

    def test_class_web(self):
        self.assertSame(class_of(class_web(4, (1, 3), (2,))), (4, (1, 3), (2,)))
        self.assertSame(told_numbers(class_web(4, (1, 3), (2,)))[2], 3)
        self.assertSame(class_of(class_web(5, (0, 1, 3), (4, 1))), (5, (0, 1, 3), (4, 1)))
        self.assertUnfit(class_web, 4, (1, 3), ())
        self.assertUnfit(class_web, 5, (0, 1, 3), (1, 1))


class Holders(Case):

    def check(self, web):
        many, chosen, people = told_class(web)
        self.assertSame(class_of(web), (many, chosen, people), web)
        self.assertSame(holders(web), tuple(zip(told_locked(many, chosen), people)), web)

    def test_all_webs_of_few_people_and_larger_ones(self):
        for web in some_webs():
            self.check(web)

    def test_who_has_the_number(self):
        for web in some_webs():
            row, told = told_numbers(web), holders(web)
            self.assertSame(tuple(number for number, _ in told), locked(web[0], odd_set(web)))
            self.assertEqual(list(told), sorted(set(told)))
            for number, person in told:
                self.assertSame(row[person], number)
                self.assertEqual(row.count(number), 1)

    def test_without_lines_and_with_all(self):
        for many in range(2, 11):
            self.assertSame((holders(empty_web(many)), holders(full_web(many))), ((), ()))
            self.assertSame(class_of(empty_web(many)), (many, (0,) if many % 2 else (), ()))
            self.assertSame(class_of(full_web(many)), (many, (many - 1,) if many % 2 else (), ()))

    def test_the_same_behind_each_deed(self):
        webs = [web for many in (2, 3, 4) for web in all_webs(many)] + all_webs(5)[::5]
        for web in webs + [web for many in range(6, 11) for web in sample_webs(many, 4)]:
            wanted = holders(web), class_of(web)
            deeds = deeds_in(web)
            for deed in draws(web) + strikes(web) + deeds[::1 + len(deeds) // 40]:
                self.assertSame((holders(done(web, deed)), class_of(done(web, deed))), wanted)

    def test_contrary_webs(self):
        for web in some_webs():
            many, last = web[0], web[0] - 1
            wanted = tuple(sorted((last - number, person) for number, person in holders(web)))
            self.assertSame(holders(contrary(web)), wanted)
            people = tuple(person for _, person in wanted)
            self.assertSame(class_of(contrary(web)), (many, tuple(sorted(last - d for d in odd_set(web))), people))

    def test_people_renamed(self):
        webs = [web for many in (2, 3, 4) for web in all_webs(many)]
        for web in webs + [web for many in range(5, 11) for web in sample_webs(many, 10)]:
            for order in orders_to_try(web[0]):
                wanted = tuple((number, order.index(person)) for number, person in holders(web))
                self.assertSame(holders(renamed(web, order)), wanted)


class Classes(Case):

    def test_the_classes_are_the_lots_that_deeds_join(self):
        for many in (2, 3, 4, 5):
            lots = joined_lots(many)
            told = [{class_of(web) for web in lot} for lot in lots]
            self.assertTrue(all(len(classes) == 1 for classes in told))
            self.assertEqual(len(set.union(*told)), len(lots))
            self.assertSame(class_count(many), len(lots))

    def test_each_odd_set_beside_all_webs_of_few_people(self):
        for many in range(2, 7):
            found = {}
            for web in all_webs(many):
                _, chosen, people = told_class(web)
                found.setdefault(chosen, set()).add(people)
            self.assertEqual(sorted(found), all_odd_sets(many))
            for chosen, people in found.items():
                self.assertSame(classes_of(many, chosen), len(people))
            self.assertSame(class_count(many), sum(map(len, found.values())))

    def test_all_odd_sets(self):
        for many in range(2, 11):
            for chosen in all_odd_sets(many):
                size = len(told_locked(many, chosen))
                self.assertSame(classes_of(many, chosen), math.perm(many, size))

    def test_class_count_is_the_sum(self):
        for many in range(2, 8):
            self.assertSame(class_count(many), sum(classes_of(many, chosen) for chosen in all_odd_sets(many)))

    def test_too_many(self):
        self.assertEqual(MAX_SPREAD, 7)
        for many in (8, 9, 10):
            with self.assertRaises(TooMany) as caught:
                class_count(many)
            self.assertIs(type(caught.exception), TooMany)
            self.assertSame(caught.exception.limit, 7)

    def test_contrary_odd_sets(self):
        for many in range(2, 11):
            for chosen in all_odd_sets(many):
                other = tuple(sorted(many - 1 - number for number in chosen))
                self.assertSame(classes_of(many, other), classes_of(many, chosen))


class ClassWeb(Case):

    def check(self, many, chosen, people):
        web = class_web(many, chosen, people)
        self.assertTrue(is_web(web), web)
        self.assertSame(told_class(web), (many, chosen, people))
        self.assertSame(class_of(web), (many, chosen, people))

    def test_all_tuples_of_two_people_to_six(self):
        for many in range(2, 7):
            for chosen in all_odd_sets(many):
                for people in all_people(many, len(told_locked(many, chosen))):
                    self.check(many, chosen, people)

    def test_some_tuples_of_seven_people_to_ten(self):
        for many in range(7, 11):
            for chosen in all_odd_sets(many):
                size = len(told_locked(many, chosen))
                for order in orders_to_try(many)[::2]:
                    self.check(many, chosen, order[:size])

    def test_as_many_webs_as_classes(self):
        for many in range(2, 6):
            for chosen in all_odd_sets(many):
                tuples = all_people(many, len(locked(many, chosen)))
                told = {class_of(class_web(many, chosen, people)) for people in tuples}
                self.assertEqual(len(told), classes_of(many, chosen))

    def test_too_few_too_many_twice_and_beyond(self):
        for many in range(2, 11):
            for chosen in all_odd_sets(many)[::4]:
                size = len(told_locked(many, chosen))
                people = tuple(range(many - 1, -1, -1))[:size]
                for value in (people[:-1], people + (0,), people * 2, people + (None,)):
                    if len(value) != size:
                        self.assertUnfit(class_web, many, chosen, value)
                for place in range(size):
                    others = [-1, many, many + 1, 10 ** 399, None, "0", (0,), [0], True, False, {}]
                    others += [people[other] for other in range(size) if other != place]
                    for item in others:
                        self.assertUnfit(class_web, many, chosen, people[:place] + (item,) + people[place + 1:])

    def test_true_and_false_are_no_people(self):
        self.check(4, (1, 3), (1,))
        self.assertUnfit(class_web, 4, (1, 3), (True,))
        self.check(5, (0, 1, 3), (0, 1))
        self.assertUnfit(class_web, 5, (0, 1, 3), (0, True))
        self.assertUnfit(class_web, 5, (0, 1, 3), (False, 1))
        self.assertUnfit(class_web, 5, (0, 1, 3), (1, True))

    def test_lists_and_other_kinds(self):
        for many, chosen, people in ((4, (1, 3), (2,)), (5, (0, 1, 3), (4, 1)), (6, (0, 1, 3, 4), (5, 0, 2))):
            self.check(many, chosen, people)
            for value in (
                list(people), (people,), people[0], dict.fromkeys(people), set(people), str(people), None,
                "".join(map(str, people)), bytes(people), (list(people),), [people], (), [],
            ):
                self.assertUnfit(class_web, many, chosen, value)

    def test_values_of_all_kinds(self):
        for many, chosen in ((4, ()), (4, (1, 3)), (5, (0, 1, 3)), (6, (0, 1, 3, 4)), (10, (1, 9))):
            right = [repr(people) for people in all_people(many, len(told_locked(many, chosen)))]
            for value in values_of_all_kinds() + strings_of_all_kinds():
                if repr(value) in right:
                    self.check(many, chosen, value)
                else:
                    self.assertUnfit(class_web, many, chosen, value)

    def test_nothing_locked(self):
        for many, chosen in ((2, ()), (4, ()), (5, (2,)), (10, ())):
            self.check(many, chosen, ())
            for value in ([], (0,), None, {}, "", ((),), False, 0):
                self.assertUnfit(class_web, many, chosen, value)


class Calls(Case):

    def test_by_name(self):
        self.assertSame((holders(web=STAR), class_of(web=STAR)), (((3, 0),), (4, (1, 3), (0,))))
        self.assertSame((classes_of(chosen=(1, 3), many=4), class_count(many=5)), (4, 44))
        self.assertSame(class_web(people=(2,), chosen=(1, 3), many=4), class_web(4, (1, 3), (2,)))
        self.assertUnfit(lambda: class_web(many=4, chosen=(1, 3), people=2))

    def test_again(self):
        for _ in range(3):
            self.assertUnfit(class_web, 4, (1, 3), (True,))
            self.assertSame(class_web(4, (1, 3), (1,)), class_web(4, (1, 3), (1,)))
            self.assertSame(class_of(STAR), (4, (1, 3), (0,)))
            self.assertSame(class_count(4), 9)
            with self.assertRaises(TooMany):
                class_count(10)
        webs = sample_webs(8, 20)
        first = [class_of(web) for web in webs]
        self.assertSame([class_of(web) for web in reversed(webs)][::-1], first)

    def test_what_is_returned_cannot_change(self):
        for told in (holders(STAR), class_of(STAR), class_web(5, (0, 1, 3), (4, 1))):
            hash(told)

    def test_what_is_handed_in_stays(self):
        for value in values_of_all_kinds() + [[2], {2: 0}]:
            before = copy.deepcopy(value)
            try:
                class_web(4, (1, 3), value)
            except Unfit:
                pass
            self.assertSame(value, before)


if __name__ == "__main__":
    unittest.main()
