"""What holds of the whole program: any value where any is let in, and what the parts tell of one another."""

import copy
import itertools
import unittest

from oddlines import bars, classes, deeds, deedtexts, errors, joining, locks, oddsets, rows, spreads, webs, webtexts
from oddlines.desks import Desk, desk_behind
from oddlines.shells import Shell
from pairs import joined_lots
from support import (
    EMPTY, OTHER_STAR, PAIR, PATH, SQUARE, STAR, Case, all_odd_sets, all_rows, all_webs, full_web, nested,
    strings_of_all_kinds, told_class, told_locked, told_numbers, told_odd_set, values_of_all_kinds,
)

# Each call that takes any value, and the errors that the document tells of it.
CALLS = [
    (webs.web_error, ()),
    (webtexts.read_web, (errors.BadText,)),
    (lambda value: rows.row_error(4, value), ()),
    (lambda value: bars.bar_error((3, 3, 1, 1), value), ()),
    (lambda value: deeds.deed_error(SQUARE, value), ()),
    (lambda value: deeds.done(SQUARE, value), (errors.Refused,)),
    (lambda value: deeds.led(SQUARE, (value,)), (errors.Refused,)),
    (deedtexts.read_deeds, (errors.BadText,)),
    (lambda value: oddsets.set_error(4, value), ()),
    (lambda value: oddsets.set_error(1000, value), ()),
    (lambda value: oddsets.set_at(1000, value), (errors.Unfit,)),
    (lambda value: oddsets.number_of_set(1000, value), (errors.Unfit,)),
    (lambda value: oddsets.web_for(4, value), (errors.Unfit,)),
    (lambda value: locks.thrice(4, (1, 3), value), (errors.Unfit,)),
    (lambda value: locks.lock_error(4, (1, 3), 3, value), ()),
    (lambda value: locks.lock_error(6, (0, 4), 0, ("bars", value)), ()),
    (lambda value: locks.lock_error(4, (1, 3), 1, ("thrice", value)), ()),
    (lambda value: classes.class_web(4, (1, 3), value), (errors.Unfit,)),
    (lambda value: joining.paper_error(PAIR, EMPTY, value), ()),
    (lambda value: joining.paper_error(PAIR, EMPTY, ("way", value)), ()),
    (lambda value: joining.paper_error(STAR, OTHER_STAR, ("mark", value)), ()),
    (lambda value: spreads.way_to(STAR, 1, value), (errors.Unfit,)),
    (Desk, (errors.BadWeb,)),
    (lambda value: desk_behind(value, value), (errors.BadWeb, errors.BadLog)),
    (lambda value: desk_behind(SQUARE, value), (errors.BadLog,)),
    (lambda value: Desk(SQUARE).draw(value, 2), (errors.Unfit, errors.Refused)),
    (lambda value: Desk(SQUARE).strike(0, value), (errors.Unfit, errors.Refused)),
    (lambda value: Desk(SQUARE).exchange(0, 1, value, 3), (errors.Unfit, errors.Refused)),
    (lambda value: Desk(SQUARE).at(value), (errors.NoVersion,)),
    (lambda value: Desk(SQUARE).may(value, 3), (errors.Unfit,)),
    (lambda value: Desk(SQUARE).way_to(value), (errors.BadWeb, errors.Apart)),
    (lambda value: Shell().say(value), ()),
    (lambda value: shell_with_desk().say(value), ()),
]


def shell_with_desk():
    shell = Shell()
    shell.say("web 4: 0-1")
    return shell


def returned_values():
    """Values that the package returned, large ones among them, and such with parts changed."""
    empty, full = (10, ()), full_web(10)
    desk = desk_behind(SQUARE, (("draw", 0, 2), ("draw", 1, 3)))
    some = (("draw", 0, 2), ("strike", 0, 2)) * 10000
    values = [
        joining.way(empty, full), joining.paper(empty, full), joining.paper(STAR, OTHER_STAR), spreads.spreads(7, (2,)),
        spreads.fewest(5, (2,)), locks.lock_paper(10, (0, 1, 3, 4), 0), locks.lock_paper(4, (1, 3), 1), full,
        classes.holders(STAR), classes.class_of(STAR), oddsets.set_at(1000, 5 ** 300), oddsets.set_count(1000),
        deedtexts.deeds_text(some), webtexts.web_text(full), deeds.turned(some), deeds.exchanges(PATH), desk, Shell(),
        desk.log, desk.web, desk.holders, desk.copy(), webs.numbers(full), oddsets.number_of_set(1000, (997, 999)),
        bars.bar((3, 3, 1, 1)), deeds.back(("draw", 0, 1)), spreads.may_have(SQUARE, 1), webs.web_error((4, ((1, 0),))),
    ]
    changed = [value[:-1] + (desk,) for value in values if type(value) is tuple and value]
    changed += [list(value) for value in values if type(value) is tuple]
    changed += [some + some, (desk, desk), {"desk": desk}, [Shell()], ("way", some), ("bars", some)]
    return values + changed + [some]


def outcome(call, value):
    """What a call returns, or the class and the fields of what it raises."""
    try:
        told = call(value)
    except errors.OddError as error:
        return (type(error), vars(error))
    return told.web if type(told) is Desk else told


class AnyValue(Case):

    def check(self, values):
        for call, wanted in CALLS:
            for value in values:
                first = outcome(call, value)
                if type(first) is tuple and first and isinstance(first[0], type):
                    self.assertIn(first[0], wanted, repr(value)[:80])
                self.assertEqual(outcome(call, value), first)

    def test_values_of_all_kinds(self):
        self.check(values_of_all_kinds() + strings_of_all_kinds() + [nested(20), nested(7), {"a": nested(18)}])

    def test_what_the_package_returned(self):
        self.check(returned_values())

    def test_what_is_handed_in_stays(self):
        for value in values_of_all_kinds() + returned_values():
            if type(value) is Shell or "Shell" in repr(value)[:80]:
                continue
            before = copy.deepcopy(value)
            for call, _ in CALLS:
                outcome(call, value)
            self.assertEqual(value, before)

    def test_all_errors_are_values_errors_of_the_package(self):
        for _, wanted in CALLS:
            for error in wanted:
                self.assertEqual(error.__bases__, (errors.OddError,))


class TheWhole(Case):

    def test_odd_sets(self):
        for many in range(2, 6):
            told = {told_odd_set(web) for web in all_webs(many)}
            for size in range(many + 1):
                for chosen in itertools.combinations(range(many), size):
                    self.assertIs(oddsets.set_error(many, chosen) is None, chosen in told)

    def test_joined_exactly_if_odd_sets_and_holders_are_the_same(self):
        for many in (2, 3, 4, 5):
            lots = joined_lots(many)
            told = [{(told_odd_set(web), told_class(web)[2]) for web in lot} for lot in lots]
            self.assertEqual(sum(map(len, told)), len(lots))
            self.assertEqual(len(set.union(*told)), len(lots))
            for one, other in itertools.combinations([lot[0] for lot in lots], 2):
                self.assertSame(joining.paper(one, other)[0], "mark")
            for lot in lots:
                self.assertSame(joining.paper(lot[0], lot[-1])[0], "way")

    def test_each_number_of_an_odd_set_has_just_one_paper(self):
        for many in range(2, 11):
            for chosen in all_odd_sets(many):
                for number in chosen:
                    word = locks.lock_paper(many, chosen, number)[0]
                    self.assertSame(word, "bars" if number in told_locked(many, chosen) else "thrice")

    def test_who_may_have_what(self):
        for many in (2, 3, 4):
            for lot in joined_lots(many):
                rows_of_all = {row for web in all_webs(many) if told_odd_set(web) == told_odd_set(lot[0])
                               for row in [told_numbers(web)]}
                for person in range(many):
                    if person in told_class(lot[0])[2]:
                        continue
                    twice = {d for row in rows_of_all for d in row if row.count(d) > 1}
                    locked = told_locked(many, told_odd_set(lot[0]))
                    wanted = tuple(sorted((twice | set(told_odd_set(lot[0]))) - set(locked)))
                    self.assertSame(spreads.may_have(lot[0], person), wanted)

    def test_a_row_is_a_webs_or_has_a_bar(self):
        for many in (2, 3, 4):
            told = {told_numbers(web) for web in all_webs(many)}
            for row in all_rows(many):
                self.assertIs(bars.bar(row) is None, row in told)


if __name__ == "__main__":
    unittest.main()
