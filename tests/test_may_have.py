"""may_have and way_to: which numbers a person may come to have, and how."""

import copy
import unittest

from oddlines.classes import holders
from oddlines.deeds import led
from oddlines.errors import Unfit
from oddlines.locks import trial_row
from oddlines.oddsets import odd_set
from oddlines.spreads import may_have, way_to
from oddlines.webs import contrary, renamed
from pairs import joined_lots, joined_pairs, led_by, wandered
from support import (
    PATH, SQUARE, STAR, Case, all_webs, empty_web, full_web, nested, orders_to_try, sample_webs, strings_of_all_kinds,
    told_class, told_is_webs, told_locked, told_numbers, told_odd_set, told_spreads, values_of_all_kinds,
)


def told_may_have(web, person):
    """The numbers of whoever holds nothing that is locked are those that two can have besides the odd set."""
    many, chosen, people = told_class(web)
    locks = told_locked(many, chosen)
    if person in people:
        return (locks[people.index(person)],)
    rows = told_spreads(many)[chosen]
    return tuple(number for number in range(many) if any(
        row.count(number) > (1 if number in locks else 0) for row in rows
    ))


def webs_of_each_odd_set(many):
    return [one for one, _ in joined_pairs(many, 1)]


class Examples(Case):

    def test_may_have(self):
        self.assertSame([may_have(STAR, person) for person in range(4)], [(3,), (1, 2), (1, 2), (1, 2)])
        self.assertSame((may_have(SQUARE, 2), may_have(PATH, 0)), ((0, 1, 2, 3), (0, 1, 2, 3, 4)))

    def test_way_to(self):
        self.assertSame(told_numbers(led(STAR, way_to(STAR, 1, 2)))[1], 2)
        self.assertSame(told_numbers(led(PATH, way_to(PATH, 0, 4)))[0], 4)
        self.assertSame(told_numbers(led(STAR, way_to(STAR, 0, 3)))[0], 3)
        behind = led(PATH, way_to(PATH, 2, 0))
        self.assertSame((holders(behind), odd_set(behind)), ((), (2,)))
        self.assertUnfit(way_to, STAR, 0, 2)
        self.assertUnfit(way_to, STAR, 1, True)


class MayHave(Case):

    def test_beside_all_that_deeds_lead_to(self):
        for many in range(2, 6):
            for lot in joined_lots(many):
                for person in range(many):
                    wanted = tuple(sorted({told_numbers(web)[person] for web in lot}))
                    for web in lot[:: 1 if many < 5 else 4]:
                        self.assertSame(may_have(web, person), wanted, (web, person))

    def test_webs_of_each_odd_set_of_two_people_to_ten(self):
        for many in range(2, 11):
            for web in webs_of_each_odd_set(many):
                for person in range(many):
                    self.assertSame(may_have(web, person), told_may_have(web, person), (web, person))

    def test_told_by_trials(self):
        for many in range(2, 9):
            for web in webs_of_each_odd_set(many):
                people = told_class(web)[2]
                trials = tuple(
                    number for number in range(many)
                    if any(told_is_webs(trial_row(many, told_odd_set(web), number, c)) for c in range(many))
                )
                for person in range(many):
                    if person not in people:
                        self.assertSame(may_have(web, person), trials)
                # Each number that is not locked is among them, and no locked one is.
                locks = told_locked(many, told_odd_set(web))
                for number in told_odd_set(web):
                    self.assertIs(number in trials, number not in locks)

    def test_holders_have_what_they_hold(self):
        for many in range(4, 11):
            for web in webs_of_each_odd_set(many):
                for number, person in holders(web):
                    self.assertSame(may_have(web, person), (number,))

    def test_their_own_number_is_among_them(self):
        for many in range(2, 11):
            for web in sample_webs(many, 15):
                for person, number in enumerate(told_numbers(web)):
                    self.assertIn(number, may_have(web, person))

    def test_the_same_in_webs_that_are_joined(self):
        for many in range(2, 11):
            for seed, web in enumerate(sample_webs(many, 6)):
                other = wandered(web, 10, seed)
                for person in range(many):
                    self.assertSame(may_have(other, person), may_have(web, person))

    def test_contrary_and_renamed_webs(self):
        for many in range(2, 11):
            for web in sample_webs(many, 6):
                order = orders_to_try(many)[-1]
                for person in range(many):
                    told = may_have(web, person)
                    self.assertSame(may_have(contrary(web), person), tuple(many - 1 - number for number in told[::-1]))
                    self.assertSame(may_have(renamed(web, order), order.index(person)), told)


class WayTo(Case):

    def check(self, web, person, number):
        behind = led_by(self, web, way_to(web, person, number))
        self.assertSame(told_numbers(behind)[person], number)
        self.assertSame(told_class(behind), told_class(web))

    def test_all_webs_of_two_people_to_four(self):
        for many in (2, 3, 4):
            for web in all_webs(many):
                for person in range(many):
                    for number in range(-1, many + 1):
                        if number in may_have(web, person):
                            self.check(web, person, number)
                        else:
                            self.assertUnfit(way_to, web, person, number)

    def test_some_webs_of_five_people(self):
        for lot in joined_lots(5):
            for web in lot[:2]:
                for person in range(5):
                    for number in may_have(web, person):
                        self.check(web, person, number)

    def test_webs_of_each_odd_set_of_two_people_to_ten(self):
        for many in range(2, 11):
            for place, web in enumerate(webs_of_each_odd_set(many)):
                people = range(many) if many < 7 else {place % many, (place + 1) % many}
                for person in sorted(people):
                    told = may_have(web, person)
                    for number in range(many):
                        if number not in told:
                            self.assertUnfit(way_to, web, person, number)
                        elif many < 8 or (place + number) % 5 == 0:
                            self.check(web, person, number)

    def test_holders_of_locked_numbers(self):
        for many in range(4, 11):
            for web in webs_of_each_odd_set(many)[::4]:
                for number, person in holders(web):
                    self.check(web, person, number)
                    for other in range(-1, many + 2):
                        if other != number:
                            self.assertUnfit(way_to, web, person, other)

    def test_all_lines_and_none(self):
        for many in range(2, 11):
            for web in (empty_web(many), full_web(many)):
                for number in may_have(web, many - 1):
                    self.check(web, many - 1, number)

    def test_true_and_false_are_no_numbers(self):
        self.check(STAR, 1, 1)
        self.assertUnfit(way_to, STAR, 1, True)
        self.assertUnfit(way_to, STAR, 0, True)
        self.check(SQUARE, 0, 0)
        self.check(SQUARE, 0, 1)
        for number in (True, False):
            self.assertUnfit(way_to, SQUARE, 0, number)

    def test_values_of_all_kinds(self):
        more = ["1", "2", (1,), [1], {1: 2}, nested(3), b"1", (True,), 10 ** 399, -1, -3, (1, 2), [2]]
        for web in (STAR, SQUARE, PATH, full_web(10)):
            for value in values_of_all_kinds() + strings_of_all_kinds() + more:
                if type(value) is not int or value not in may_have(web, 1):
                    self.assertUnfit(way_to, web, 1, value)


class Calls(Case):

    def test_by_name_and_again(self):
        for _ in range(2):
            self.assertSame(may_have(person=1, web=STAR), (1, 2))
            self.assertSame(way_to(number=2, person=1, web=STAR), way_to(STAR, 1, 2))
            self.assertUnfit(lambda: way_to(web=STAR, person=0, number=2))
            self.assertUnfit(way_to, STAR, 1, True)
            self.assertSame(told_numbers(led(STAR, way_to(STAR, 1, 1)))[1], 1)
        webs = sample_webs(8, 6)
        first = [way_to(web, 3, may_have(web, 3)[-1]) for web in webs]
        self.assertSame([way_to(web, 3, may_have(web, 3)[-1]) for web in reversed(webs)][::-1], first)

    def test_what_is_returned_cannot_change(self):
        hash(may_have(STAR, 1))
        hash(way_to(STAR, 1, 2))

    def test_what_is_handed_in_stays(self):
        for value in values_of_all_kinds():
            before = copy.deepcopy(value)
            try:
                way_to(STAR, 1, value)
            except Unfit:
                pass
            self.assertSame(value, before)


if __name__ == "__main__":
    unittest.main()
