"""lock_paper and lock_error: papers for locked numbers and for those that are not."""

import copy
import itertools
import unittest

from oddlines.bars import bar
from oddlines.classes import class_of
from oddlines.locks import lock_error, lock_paper, trial_row
from oddlines.webs import contrary, one_more, renamed, web_error
from support import (
    PAIR, PATH, SQUARE, STAR, Case, all_odd_sets, all_webs, empty_web, full_web, is_web, nested, strings_of_all_kinds,
    told_bar_error, told_locked, told_numbers, told_odd_set, values_of_all_kinds,
)

SHUT, WIDE = ((1, 2, 3), (0,)), ((1, 2, 3), ())


def told_rows(many, chosen, number):
    count = 1 if len(chosen) == many - 2 else many
    return [trial_row(many, chosen, number, c) for c in range(count)]


def told_error(many, chosen, number, value):
    """What [G3] tells, point by point."""
    if type(value) is not tuple or len(value) != 2 or repr(value[0]) not in ("'thrice'", "'bars'"):
        return "form"
    word, told = value
    if word == "thrice":
        if web_error(told) is not None or told[0] != many:
            return "web"
        if told_odd_set(told) != chosen:
            return "set"
        return "few" if told_numbers(told).count(number) < 3 else None
    rows = told_rows(many, chosen, number)
    if type(told) is not tuple or len(told) != len(rows):
        return "form"
    wrong = [c for c, row in enumerate(rows) if told_bar_error(row, told[c]) is not None]
    return ("bar", wrong[0]) if wrong else None


def all_asked(least=2, most=10):
    """All odd sets and their numbers."""
    return [
        (many, chosen, number)
        for many in range(least, most + 1) for chosen in all_odd_sets(many) for number in chosen
    ]


def locked_asked():
    return [asked for asked in all_asked() if asked[2] in told_locked(*asked[:2])]


class Examples(Case):

    def test_papers(self):
        self.assertSame([lock_error(4, (1, 3), number, lock_paper(4, (1, 3), number)) for number in (1, 3)], [None] * 2)
        self.assertSame((lock_paper(4, (1, 3), 1)[0], lock_paper(4, (1, 3), 3)[0]), ("thrice", "bars"))
        self.assertEqual(len(lock_paper(6, (0, 4), 0)[1]), 6)

    def test_errors(self):
        values = (
            ("bars", (SHUT,)), ("bars", (WIDE,)), ("bars", ()), ("bars", [SHUT]), ("thrice", STAR),
            ("thrice", SQUARE), ("thrice", PATH), None,
        )
        self.assertSame(
            [lock_error(4, (1, 3), 3, value) for value in values],
            [None, ("bar", 0), "form", "form", "few", "set", "web", "form"],
        )
        self.assertIsNone(lock_error(4, (1, 3), 1, ("thrice", STAR)))
        self.assertSame(lock_error(4, (1, 3), 1, ("bars", (SHUT,))), ("bar", 0))


class Papers(Case):

    def test_each_paper_is_taken(self):
        for asked in all_asked():
            told = lock_paper(*asked)
            self.assertIs(type(told), tuple)
            self.assertIsNone(lock_error(*asked, told), (asked, told))
            self.assertIsNone(told_error(*asked, told), (asked, told))

    def test_the_right_sort_of_paper(self):
        for many, chosen, number in all_asked():
            word, told = lock_paper(many, chosen, number)
            if number in told_locked(many, chosen):
                self.assertSame(word, "bars")
                self.assertEqual(len(told), 1 if len(chosen) == many - 2 else many)
            else:
                self.assertSame(word, "thrice")
                self.assertTrue(is_web(told))

    def test_no_number_could_have_both(self):
        for many in (3, 4, 5):
            for chosen in all_odd_sets(many):
                for number in chosen:
                    taken = [lock_error(many, chosen, number, ("thrice", web)) for web in all_webs(many)]
                    self.assertIs(None in taken, number not in told_locked(many, chosen))
        for many, chosen, number in all_asked():
            rows = told_rows(many, chosen, number)
            value = ("bars", tuple(bar(row) for row in rows))
            locked = number in told_locked(many, chosen)
            self.assertIs(lock_error(many, chosen, number, value) is None, locked)
            if not locked:
                self.assertSame(lock_error(many, chosen, number, value), ("bar", value[1].index(None)))

    def test_odd_sets_with_two_fewer_numbers_than_people(self):
        # Then two people are left, who have the number: one row, and one bar.
        for many, chosen, number in locked_asked():
            word, told = lock_paper(many, chosen, number)
            count = 1 if len(chosen) == many - 2 else many
            for size in range(many + 3):
                value = ("bars", (told * many)[:size])
                wanted = "form" if size != count else None
                self.assertSame(lock_error(many, chosen, number, value), wanted)


class Words(Case):

    def check(self, asked, value):
        wanted = told_error(*asked, value)
        self.assertSame(lock_error(*asked, value), wanted, (asked, repr(value)[:200]))
        return wanted

    def test_no_pair_and_other_words(self):
        for asked in ((4, (1, 3), 1), (4, (1, 3), 3), (6, (0, 4), 0), (6, (0, 4), 4), (10, (0, 1, 3, 4), 3)):
            good = lock_paper(*asked)
            word, told = good
            for value in (
                list(good), good + (None,), good[:1], (good,), (), word, told, (told, word), {word: told},
                (word, word), (None, told), (True, told), ([word], told), ((word,), told), (word.upper(), told),
                (word + " ", told), (word[:-1], told), ("", told), (b"bars", told), ("locked", told), ("bar", told),
                ("Bars", told), ("thrice",), ("bars",), ("form", told), (word, told, told),
            ):
                self.check(asked, value)
                if value != (word, word):
                    self.assertSame(lock_error(*asked, value), "form", value)

    def test_both_words_with_told_of_the_other_one(self):
        for asked in all_asked(3, 6):
            word, told = lock_paper(*asked)
            other = "bars" if word == "thrice" else "thrice"
            wanted = "web" if other == "thrice" else "form"
            # A web is a pair, and of three people or more two bars are never asked for.
            self.assertSame(self.check(asked, (other, told)), wanted)

    def test_lists_and_too_few_and_too_many_items(self):
        for asked in locked_asked():
            word, told = lock_paper(*asked)
            for value in (
                (word, list(told)), (word, told[:-1]), (word, told + told[-1:]), (word, ()), (word, told + (None,)),
                (word, None), (word, told[0]), (word, dict(enumerate(told))), (word, (told,) * (len(told) + 1)),
            ):
                self.assertSame(self.check(asked, value), "form")

    def test_items_that_are_no_bars_at_each_place(self):
        for asked in locked_asked()[::3]:
            word, told = lock_paper(*asked)
            rows = told_rows(*asked)
            for place, row in enumerate(rows):
                for item in (
                    None, "odd", "Odd", ((), ()), (), ((0,), (0,)), list(told[place]), (list(told[place][0]), ()),
                    told[place][::-1], told[place - 1], told[place] + ((),), ((True,), ()), 3,
                ):
                    value = (word, told[:place] + (item,) + told[place + 1:])
                    wanted = self.check(asked, value)
                    self.assertEqual(wanted, None if told_bar_error(row, item) is None else ("bar", place))

    def test_the_least_place_of_several(self):
        for asked in locked_asked()[::7]:
            word, told = lock_paper(*asked)
            for places in itertools.combinations(range(len(told)), 2):
                items = [None if place in places else item for place, item in enumerate(told)]
                self.assertSame(lock_error(*asked, (word, tuple(items))), ("bar", places[0]))
        self.assertSame(lock_error(6, (0, 4), 0, ("bars", (None,) * 6)), ("bar", 0))

    def test_no_webs(self):
        wrong = [
            (4, [(0, 1)]), list(STAR), (4, ((1, 0),)), (4, ((0, 4),)), (4, ((0, 2), (0, 1))), (4, ((0, 1), (0, 1))),
            (True, ()), (1, ()), (11, ()), 4, None, "4: 0-1 0-2 0-3", (4, ((0, True),)), (4, ()) + ((),), ("4", ()),
        ]
        for asked in ((4, (1, 3), 1), (4, (1, 3), 3), (4, (0, 2), 2)):
            for web in wrong:
                self.check(asked, ("thrice", web))
                self.assertSame(lock_error(*asked, ("thrice", web)), "web", web)

    def test_webs_of_other_many(self):
        # (2,) is an odd set of five people and of seven: one person more without lines makes no odd set of it.
        for many in (3, 5, 7, 9):
            for other in range(2, 11):
                wanted = self.check((many, (2,), 2), ("thrice", empty_web(other)))
                self.assertSame(wanted, "set" if other == many else "web")
        ring = (5, ((0, 1), (0, 2), (1, 2)))
        self.assertIsNone(lock_error(5, (2,), 2, ("thrice", ring)))
        larger = one_more(one_more(ring, False), False)
        self.assertSame(told_odd_set(larger), (2,))
        self.assertSame(lock_error(5, (2,), 2, ("thrice", larger)), "web")
        self.assertIsNone(lock_error(7, (2,), 2, ("thrice", larger)))
        self.assertSame(lock_error(7, (2,), 2, ("thrice", ring)), "web")

    def test_all_webs_of_four_people_and_five(self):
        for many in (3, 4, 5):
            for asked in all_asked(many, many):
                for web in all_webs(many):
                    self.check(asked, ("thrice", web))

    def test_other_odd_sets_and_too_few_holders(self):
        self.assertSame(lock_error(4, (1, 3), 1, ("thrice", PAIR)), "set")
        self.assertSame(lock_error(4, (1, 3), 1, ("thrice", empty_web(4))), "set")
        # Here 3 is had once, 1 once and 2 twice.
        self.assertSame(lock_error(4, (1, 3), 1, ("thrice", (4, ((0, 1), (0, 2), (0, 3), (1, 2))))), "few")
        self.assertSame(lock_error(5, (2,), 2, ("thrice", full_web(5))), "set")
        self.assertSame(lock_error(5, (4,), 4, ("thrice", full_web(5))), None)
        # 2 is had once, besides 0 and 1 by two each.
        self.assertSame(lock_error(5, (2,), 2, ("thrice", (5, ((0, 1), (0, 2))))), "few")

    def test_the_first_word_that_applies(self):
        self.assertSame(lock_error(4, (1, 3), 3, ("thrice", empty_web(5))), "web")
        self.assertSame(lock_error(4, (1, 3), 3, ("thrice", empty_web(4))), "set")
        self.assertSame(lock_error(4, (1, 3), 3, ["thrice", empty_web(5)]), "form")
        self.assertSame(lock_error(6, (0, 4), 0, ("bars", [None] * 6)), "form")
        self.assertSame(lock_error(6, (0, 4), 0, ("bars", (None,) * 5)), "form")

    def test_values_of_all_kinds(self):
        for asked in ((4, (1, 3), 1), (4, (1, 3), 3), (3, (0,), 0), (6, (0, 4), 0), (10, (1, 3), 3)):
            for told in values_of_all_kinds() + strings_of_all_kinds() + [nested(3), lock_paper(4, (1, 3), 3)]:
                for value in (told, ("thrice", told), ("bars", told), ("bars", (told,)), ("bars", (told,) * 6)):
                    self.check(asked, value)

    def test_bars_of_all_pairs_of_lots(self):
        lots = [lot for size in range(5) for lot in itertools.combinations(range(4), size)]
        taken = 0
        for high, low in itertools.product(lots, repeat=2):
            taken += self.check((4, (1, 3), 3), ("bars", ((high, low),))) is None
            self.check((4, (1, 3), 1), ("bars", ((high, low),)))
            self.check((4, (0, 2), 0), ("bars", ((high, low),)))
        self.assertGreater(taken, 0)

    def test_contrary_and_renamed_webs(self):
        for many, chosen, number in all_asked(4, 8):
            word, told = lock_paper(many, chosen, number)
            if word == "thrice":
                order = tuple(range(many))[::-1]
                self.assertIsNone(lock_error(many, chosen, number, (word, renamed(told, order))))
                other = tuple(sorted(many - 1 - d for d in chosen))
                self.assertIsNone(lock_error(many, other, many - 1 - number, (word, contrary(told))))
                self.assertEqual(class_of(told)[:2], (many, chosen))


class Calls(Case):

    def test_by_name(self):
        self.assertSame(lock_paper(number=3, chosen=(1, 3), many=4), lock_paper(4, (1, 3), 3))
        self.assertIsNone(lock_error(value=("bars", (SHUT,)), number=3, chosen=(1, 3), many=4))
        self.assertSame(lock_error(many=4, chosen=(1, 3), number=3, value=("bars", (WIDE,))), ("bar", 0))

    def test_again(self):
        for _ in range(3):
            self.assertSame(lock_error(4, (1, 3), 3, ("bars", (((True, 2, 3), (0,)),))), ("bar", 0))
            self.assertIsNone(lock_error(4, (1, 3), 3, ("bars", (SHUT,))))
            self.assertSame(lock_error(4, (1, 3), 3, ("bars", [SHUT])), "form")
        asked = all_asked(7, 7)
        first = [lock_paper(*one) for one in asked]
        self.assertSame([lock_paper(*one) for one in reversed(asked)][::-1], first)

    def test_what_is_returned_cannot_change(self):
        for asked in all_asked(6, 6):
            hash(lock_paper(*asked))

    def test_what_is_handed_in_stays(self):
        for told in values_of_all_kinds():
            for value in (told, ("thrice", told), ("bars", told), ("bars", (told,))):
                before = copy.deepcopy(value)
                lock_error(4, (1, 3), 3, value)
                self.assertSame(value, before)


if __name__ == "__main__":
    unittest.main()
