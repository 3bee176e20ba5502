"""paper and paper_error: papers that show that two webs are joined, or that they are not."""

import copy
import itertools
import unittest

from oddlines.bounds import MAX_DEEDS
from oddlines.deeds import turned
from oddlines.joining import paper, paper_error, way
from oddlines.marks import joined, mark
from pairs import drawn_pairs, joined_pairs, led_by, told_mark, told_marks
from support import (
    EMPTY, OTHER_STAR, PAIR, PATH, SQUARE, STAR, Case, all_deeds, all_webs, empty_web, full_web, nested,
    strings_of_all_kinds, told_can, told_done, values_of_all_kinds,
)

DRAW, STRIKE = ("draw", 2, 3), ("strike", 0, 1)


def told_error(one, other, value):
    """What [F4] tells, point by point; by repr, where True is not 1."""
    if type(value) is not tuple or len(value) != 2 or repr(value[0]) not in ("'way'", "'mark'"):
        return "form"
    word, told = value
    if word == "mark":
        return None if repr(told) in [repr(found) for found in told_marks(one, other)] else "mark"
    if type(told) is not tuple or len(told) > 20000:
        return "form"
    forms = [repr(deed) for deed in all_deeds(one[0])] if one[0] < 6 else None
    for place, deed in enumerate(told):
        if forms is not None and repr(deed) not in forms or not told_can(one, deed):
            return ("deed", place)
        one = told_done(one, deed)
    return None if one == other else "end"


class Examples(Case):

    def test_papers(self):
        self.assertIsNone(paper_error(PAIR, SQUARE, paper(PAIR, SQUARE)))
        self.assertSame(paper(PAIR, SQUARE)[0], "way")
        self.assertIsNone(paper_error(STAR, OTHER_STAR, paper(STAR, OTHER_STAR)))
        self.assertSame(paper(STAR, PATH), ("mark", "many"))

    def test_ways(self):
        ways = ((STRIKE,), (DRAW, STRIKE, ("strike", 2, 3)), (), (DRAW,), (("strike", 0, 2),), (STRIKE,) * 2, [STRIKE])
        self.assertSame(
            [paper_error(PAIR, EMPTY, ("way", some)) for some in ways],
            [None, None, "end", "end", ("deed", 0), ("deed", 1), "form"],
        )

    def test_marks(self):
        values = (("odd", 1), ("odd", 3), ("odd", 2), ("holder", 3), "many", ["odd", 1])
        self.assertSame(
            [paper_error(STAR, SQUARE, ("mark", value)) for value in values], [None, None] + ["mark"] * 4
        )

    def test_forms(self):
        values = (None, ("way",), ("road", ()), ("mark", ("odd", 1)))
        self.assertSame([paper_error(PAIR, EMPTY, value) for value in values], ["form"] * 3 + ["mark"])


class Papers(Case):

    def check(self, one, other):
        """The paper is taken, and none of the other sort is."""
        told = paper(one, other)
        self.assertIs(type(told), tuple)
        self.assertEqual(len(told), 2)
        self.assertIsNone(paper_error(one, other, told))
        found = told_mark(one, other)
        if found is None:
            self.assertSame(told[0], "way")
            self.assertSame(led_by(self, one, told[1]), other)
            for value in ("many", ("odd", 0), ("odd", 1), ("holder", 0), ("holder", one[0] - 1), None):
                self.assertSame(paper_error(one, other, ("mark", value)), "mark")
        else:
            self.assertSame(told[0], "mark")
            self.assertIn(repr(told[1]), [repr(value) for value in told_marks(one, other)])
            self.assertSame(paper_error(one, other, ("way", ())), "end")
            if one[0] == other[0]:
                self.assertSame(paper_error(one, other, ("way", way(one, one))), "end")

    def test_all_pairs_of_webs_of_two_people_to_four(self):
        for many in (2, 3, 4):
            for one, other in list(itertools.product(all_webs(many), repeat=2))[::many - 1]:
                self.check(one, other)

    def test_drawn_pairs_of_two_people_to_ten(self):
        for one, other in drawn_pairs()[::3]:
            self.check(one, other)

    def test_pairs_of_each_odd_set(self):
        for many in range(2, 11):
            for one, other in joined_pairs(many, 1)[:: 1 + many // 5]:
                self.check(one, other)
                self.assertIsNone(paper_error(other, one, ("way", turned(paper(one, other)[1]))))

    def test_unlike_many(self):
        for many, other_many in itertools.permutations(range(2, 11), 2):
            self.check(empty_web(many), full_web(other_many))

    def test_the_sort_is_told_by_joined(self):
        for one, other in drawn_pairs()[::6]:
            self.assertSame(paper(one, other)[0], "way" if joined(one, other) else "mark")


class Forms(Case):

    def test_other_words_lists_and_what_is_no_pair(self):
        for one, other in ((PAIR, EMPTY), (STAR, OTHER_STAR), (STAR, PATH), (SQUARE, SQUARE)):
            word, told = paper(one, other)
            for value in (
                [word, told], (word,), (word, told, told), (told, word), ((word,), told), ([word], told), word, told,
                (), ((), ()),
                (word.upper(), told), (word + " ", told), (word[:-1], told), ("", told), (None, told), (b"way", told),
                (True, told), {word: told}, ((word, told),), ("ways", told), ("marks", told), ("deed", told),
            ):
                self.assertSame(told_error(one, other, value), "form", value)
                self.assertSame(paper_error(one, other, value), "form", value)

    def test_ways_that_are_no_tuples(self):
        for some in ([STRIKE], {0: STRIKE}, "none", "strike 0 1", None, 0, True, [], "", {}):
            self.assertSame(paper_error(PAIR, EMPTY, ("way", some)), "form")
            self.assertSame(paper_error(STAR, PATH, ("way", some)), "form")

    def test_as_many_deeds_as_may_be_and_one_more(self):
        self.assertEqual(MAX_DEEDS, 20000)
        draw, strike = ("draw", 0, 2), ("strike", 0, 2)
        some = (draw, strike) * 10000
        self.assertIsNone(paper_error(SQUARE, SQUARE, ("way", some)))
        self.assertSame(paper_error(SQUARE, SQUARE, ("way", some[:-1])), "end")
        self.assertSame(paper_error(SQUARE, SQUARE, ("way", some[:-1] + (draw,))), ("deed", 19999))
        self.assertSame(paper_error(SQUARE, SQUARE, ("way", some + (draw,))), "form")
        self.assertSame(paper_error(SQUARE, SQUARE, ("way", some + (draw, strike))), "form")
        self.assertSame(paper_error(SQUARE, SQUARE, ("way", (None,) * 20001)), "form")
        self.assertSame(paper_error(SQUARE, SQUARE, ("way", (None,) * 20000)), ("deed", 0))

    def test_values_of_all_kinds(self):
        parts = values_of_all_kinds() + strings_of_all_kinds() + [nested(3), paper(PAIR, SQUARE)]
        for one, other in ((PAIR, EMPTY), (STAR, OTHER_STAR), (STAR, SQUARE), (STAR, PATH), ((2, ()), (2, ((0, 1),)))):
            for part in parts:
                pairs = [("way", part), ("mark", part), ("way", (part,)), ("mark", ("odd", part)), (part, ())]
                for value in [part] + pairs:
                    wanted = told_error(one, other, value)
                    self.assertSame(paper_error(one, other, value), wanted, repr(value)[:100])


class Ways(Case):

    def test_deeds_that_cannot_be_done_at_each_place(self):
        for many in (4, 5, 7, 10):
            for one, other in joined_pairs(many, 1)[:: 1 + many]:
                some = way(one, other)
                for place in range(len(some)):
                    for wrong in (None, list(some[place]), some[place][:-1], ("draw", 1, 0), ("draw", 0, many), "draw"):
                        value = ("way", some[:place] + (wrong,) + some[place + 1:])
                        self.assertSame(paper_error(one, other, value), ("deed", place))
                    # No deed can be done twice: a line cannot come, or go, again.
                    value = ("way", some[:place + 1] + some[place:])
                    self.assertSame(paper_error(one, other, value), ("deed", place + 1))

    def test_the_first_of_several(self):
        self.assertSame(paper_error(PAIR, EMPTY, ("way", (DRAW, None, STRIKE, None))), ("deed", 1))
        self.assertSame(paper_error(PAIR, EMPTY, ("way", (DRAW, DRAW, ["strike"]))), ("deed", 1))
        self.assertSame(paper_error(PAIR, EMPTY, ("way", (("strike", False, 1),))), ("deed", 0))

    def test_all_rows_of_two_deeds_of_two_webs(self):
        deeds = all_deeds(4)
        for one in (PAIR, SQUARE):
            for some in itertools.product(deeds, repeat=2):
                for other in (EMPTY, one):
                    self.assertSame(paper_error(one, other, ("way", some)), told_error(one, other, ("way", some)))

    def test_ways_that_end_elsewhere(self):
        for many in (4, 6, 9):
            for one, other in joined_pairs(many, 1)[::2]:
                some = way(one, other)
                for size in range(len(some) + 1):
                    value = ("way", some[:size])
                    wanted = None if led_by(self, one, some[:size]) == other else "end"
                    self.assertSame(paper_error(one, other, value), wanted)

    def test_webs_of_unlike_many_have_none(self):
        for some in ((), (STRIKE,), (DRAW, STRIKE), (("draw", 0, 4),)):
            wanted = ("deed", 0) if some and some[0][2] == 4 else "end"
            self.assertSame(paper_error(PAIR, empty_web(5), ("way", some)), wanted)
        self.assertSame(paper_error(empty_web(5), PAIR, ("way", (("draw", 0, 4),))), "end")


class Marks(Case):

    def test_all_marks_and_what_is_none(self):
        words = ("odd", "holder", "many", "Odd", "", None, 3)
        for one, other in drawn_pairs()[::23] + [(STAR, OTHER_STAR), (STAR, SQUARE), (STAR, PATH), (PAIR, SQUARE)]:
            told = [repr(found) for found in told_marks(one, other)]
            values = [(word, number) for word in words for number in range(-1, 12)] + list(words)
            values += [(number, word) for word, number in values[:40:3]] + [("odd", True), ("odd", False)]
            values += [("holder", True), ("holder", False), ("odd",), ("odd", 1, 1), ["odd", 1], ["holder", 3]]
            for value in values:
                wanted = None if repr(value) in told else "mark"
                self.assertSame(paper_error(one, other, ("mark", value)), wanted, (one, other, value))
            self.assertIs(mark(one, other) is None, told == [])

    def test_each_mark_is_taken(self):
        for one, other in drawn_pairs()[::3]:
            for found in told_marks(one, other):
                self.assertIsNone(paper_error(one, other, ("mark", found)))
                self.assertIsNone(paper_error(other, one, ("mark", found)))

    def test_true_and_false_are_no_numbers(self):
        three = (4, ((0, 1), (0, 2), (1, 2)))
        self.assertIsNone(paper_error(STAR, SQUARE, ("mark", ("odd", 1))))
        self.assertSame(paper_error(STAR, SQUARE, ("mark", ("odd", True))), "mark")
        self.assertIsNone(paper_error(three, SQUARE, ("mark", ("odd", 0))))
        self.assertSame(paper_error(three, SQUARE, ("mark", ("odd", False))), "mark")


class Calls(Case):

    def test_by_name_and_again(self):
        for _ in range(2):
            told = paper(one=PAIR, other=SQUARE)
            self.assertSame(told, paper(PAIR, SQUARE))
            self.assertIsNone(paper_error(value=told, other=SQUARE, one=PAIR))
            self.assertSame(paper_error(one=STAR, other=SQUARE, value=("mark", ("odd", True))), "mark")
            self.assertIsNone(paper_error(one=STAR, other=SQUARE, value=("mark", ("odd", 1))))
        pairs = drawn_pairs()[::30]
        first = [paper(*both) for both in pairs]
        self.assertSame([paper(*both) for both in reversed(pairs)][::-1], first)

    def test_what_is_returned_cannot_change(self):
        for both in drawn_pairs()[::30]:
            hash(paper(*both))

    def test_what_is_handed_in_stays(self):
        for told in values_of_all_kinds():
            for value in (told, ("way", told), ("mark", told), ("way", (STRIKE, told)), ("mark", ("odd", told))):
                before = copy.deepcopy(value)
                paper_error(PAIR, EMPTY, value)
                self.assertSame(value, before)


if __name__ == "__main__":
    unittest.main()
