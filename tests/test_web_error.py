"""web_error: what is a web, and which of its faults it tells first."""

import copy
import itertools
import unittest

from oddlines.webs import contrary, numbers, one_more, renamed, web_error
from support import (
    PAIR, PATH, SQUARE, STAR, Case, all_pairs, all_webs, empty_web, full_web, nested, webs_to_try,
)

NO_TUPLES = [
    None, True, False, 0, 1, 4, -1, 10 ** 399, "", "a", "ab", "4: none", "(4, ())",
    [], [4, ()], [4, []], {}, {4: ()}, {0: 4, 1: ()},
]
NO_MANY = [
    1, 0, -1, -2, -4, -10, 11, 12, 20, 10 ** 399, -(10 ** 399), True, False, None, "", "4", "10",
    (), (4,), [4], {}, {4: 4},
]
NO_LINES = [
    (0, 4), (3, 4), (2, 5), (0, 10 ** 399), (-1, 0), (-1, 2), (-2, -1), (0, -1), (-(10 ** 399), 0),
    (4, 4), (4, 5), (0, 0), (1, 1), (3, 3), (1, 0), (2, 1), (3, 0), (0, True), (False, 1), (False, True),
    (True, 2), (True, 3), (0, "1"), ("0", "1"), (None, 1), (0, None), ((0,), 1), ([0], 1), (0, {}),
    [0, 1], [], {}, {0: 1, 1: 2}, (), (0,), (0, 1, 2), (0, 1, 1), ((0, 1),), ((0, 1), (0, 2)),
    None, True, 0, 1, "01", "0-1", "",
]


def told_error(value):
    """What the document tells, by the repr of lines: there True is not 1."""
    if type(value) is not tuple or len(value) != 2 or type(value[1]) is not tuple:
        return "form"
    if repr(value[0]) not in [repr(many) for many in range(2, 11)]:
        return "many"
    names = [repr(pair) for pair in all_pairs(value[0])]
    lines = [repr(line) for line in value[1]]
    for place, line in enumerate(lines):
        if line not in names:
            return ("line", place)
    ranks = [names.index(line) for line in lines]
    falls = [place for place in range(1, len(ranks)) if ranks[place] <= ranks[place - 1]]
    return ("order", falls[0]) if falls else None


class Examples(Case):

    def test_first(self):
        values = (
            SQUARE, STAR, PAIR, PATH, (2, ()), list(SQUARE), (4, [(0, 1)]), 4, (1, ()), (11, ()), (True, ()),
        )
        self.assertSame(
            [web_error(value) for value in values],
            [None, None, None, None, None, "form", "form", "form", "many", "many", "many"],
        )

    def test_second(self):
        rows = (
            ((0, 4),), ((0, 1), (2, 1)), ((1, 1),), ((0, True),), ([0, 1],),
            ((0, 2), (0, 1)), ((0, 1), (0, 1)), ((0, 2), (0, 1), (3, 4)),
        )
        self.assertSame(
            [web_error((4, lines)) for lines in rows],
            [
                ("line", 0), ("line", 1), ("line", 0), ("line", 0), ("line", 0),
                ("order", 1), ("order", 1), ("line", 2),
            ],
        )


class Webs(Case):

    def test_without_lines_and_with_all(self):
        for many in range(2, 11):
            self.assertIsNone(web_error(empty_web(many)), many)
            self.assertIsNone(web_error(full_web(many)), many)

    def test_with_each_single_line(self):
        for many in range(2, 11):
            for line in all_pairs(many):
                self.assertIsNone(web_error((many, (line,))), (many, line))

    def test_all_of_few_people_and_some_of_more(self):
        for web in webs_to_try():
            self.assertIsNone(web_error(web), web)

    def test_all_of_five_people(self):
        for web in all_webs(5):
            self.assertIsNone(web_error(web), web)


class Form(Case):

    def test_no_tuple(self):
        for value in NO_TUPLES + [nested(20)]:
            self.assertSame(web_error(value), "form")

    def test_no_pair(self):
        for value in ((), (4,), ((),), (4, (), ()), (4, ((0, 1),), None), (4, 0, 1), (None,) * 4000):
            self.assertSame(web_error(value), "form")

    def test_second_item_no_tuple(self):
        for lines in NO_TUPLES + [[(0, 1)], {(0, 1): True}]:
            self.assertSame(web_error((4, lines)), "form")

    def test_ahead_of_many(self):
        for many in NO_MANY:
            self.assertSame(web_error((many, [])), "form")
            self.assertSame(web_error((many, None)), "form")
            self.assertSame(web_error([many, ()]), "form")

    def test_turned_about(self):
        self.assertSame(web_error(((), 4)), "form")
        self.assertSame(web_error((((0, 1),), 4)), "form")


class Many(Case):

    def test_each(self):
        for many in NO_MANY + [nested(19)]:
            self.assertSame(web_error((many, ())), "many")
            self.assertSame(web_error((many, ((0, 1),))), "many")

    def test_ahead_of_line_and_order(self):
        for many in NO_MANY:
            self.assertSame(web_error((many, (None,))), "many")
            self.assertSame(web_error((many, ((0, 0), (0, 1), (0, 1)))), "many")
            self.assertSame(web_error((many, ((0, 2), (0, 1)))), "many")

    def test_two_tuples(self):
        self.assertSame(web_error(((0, 1), (0, 2))), "many")
        self.assertSame(web_error(((), ())), "many")


class Line(Case):

    def test_alone(self):
        for line in NO_LINES + [nested(18)]:
            self.assertSame(web_error((4, (line,))), ("line", 0))

    def test_behind_others(self):
        ahead = full_web(4)[1]
        for line in NO_LINES:
            for size in range(1, 7):
                self.assertSame(web_error((4, ahead[:size] + (line,))), ("line", size))

    def test_between_others(self):
        for line in NO_LINES:
            self.assertSame(web_error((4, ((0, 1), line, (2, 3)))), ("line", 1))

    def test_the_first_of_several(self):
        for line in NO_LINES:
            for other in NO_LINES:
                self.assertSame(web_error((4, ((0, 1), line, other, (0, 2), line))), ("line", 1))

    def test_ahead_of_order(self):
        for line in NO_LINES:
            self.assertSame(web_error((4, ((0, 2), (0, 1), (0, 1), line))), ("line", 3))
            self.assertSame(web_error((4, (line, (0, 2), (0, 1)))), ("line", 0))

    def test_people_just_beyond(self):
        for many in range(2, 11):
            self.assertSame(web_error((many, ((0, many),))), ("line", 0))
            self.assertSame(web_error((many, ((many - 1, many),))), ("line", 0))
            self.assertSame(web_error((many, ((0, 1), (-1, many - 1)))), ("line", 1))

    def test_a_line_to_oneself_and_turned_about(self):
        for many in range(2, 11):
            for person in range(many):
                self.assertSame(web_error((many, ((person, person),))), ("line", 0))
            for low, high in all_pairs(many):
                self.assertSame(web_error((many, ((high, low),))), ("line", 0))

    def test_far_behind(self):
        self.assertSame(web_error((10, ((0, 1),) * 1200 + ((0, 10),))), ("line", 1200))


class Order(Case):

    def test_twice(self):
        for many in range(2, 11):
            for line in all_pairs(many):
                self.assertSame(web_error((many, (line, line))), ("order", 1))

    def test_each_two_the_wrong_way_round(self):
        for many in (3, 4, 10):
            for low, high in itertools.combinations(all_pairs(many), 2):
                self.assertSame(web_error((many, (high, low))), ("order", 1))
                self.assertIsNone(web_error((many, (low, high))))

    def test_the_first_of_several(self):
        self.assertSame(web_error((4, ((0, 1), (0, 2), (0, 2), (0, 1)))), ("order", 2))
        self.assertSame(web_error((4, ((0, 1), (0, 3), (0, 2), (0, 2), (0, 1)))), ("order", 2))

    def test_beside_the_one_ahead_alone(self):
        self.assertSame(web_error((4, ((1, 2), (0, 1), (0, 2), (1, 2)))), ("order", 1))

    def test_at_the_end_of_all(self):
        for many in range(3, 11):
            lines = full_web(many)[1]
            self.assertSame(web_error((many, lines + lines[-1:])), ("order", len(lines)))
            self.assertSame(web_error((many, lines + lines[:1])), ("order", len(lines)))
            swapped = lines[:-2] + (lines[-1], lines[-2])
            self.assertSame(web_error((many, swapped)), ("order", len(lines) - 1))

    def test_greater_first_person_with_lesser_second_one(self):
        self.assertIsNone(web_error((4, ((0, 3), (1, 2)))))
        self.assertSame(web_error((4, ((1, 2), (0, 3)))), ("order", 1))


class BesideTheDocument(Case):

    def test_all_rows_of_up_to_three_items(self):
        pool = [
            (0, 1), (0, 2), (1, 2), (1, 3), (1, 0), (2, 2), (0, True), (False, 1), (1,), (0, 1, 2),
            [0, 1], None, "01", 1, (),
        ]
        for many in (2, 3, 4):
            for size in range(4):
                for lines in itertools.product(pool, repeat=size):
                    value = (many, lines)
                    self.assertSame(web_error(value), told_error(value))

    def test_all_rows_of_four_lines_of_three_people(self):
        for lines in itertools.product(all_pairs(3), repeat=4):
            self.assertSame(web_error((3, lines)), told_error((3, lines)))

    def test_webs_with_one_line_changed(self):
        for web in webs_to_try():
            many, lines = web
            for place in range(len(lines)):
                for line in ((0, 1), (many - 2, many - 1), (0, many), lines[0], list(lines[place])):
                    value = (many, lines[:place] + (line,) + lines[place + 1:])
                    self.assertSame(web_error(value), told_error(value))


class Calls(Case):

    def test_by_name(self):
        for value in (SQUARE, 4, (1, ()), (4, ((0, 4),)), (4, ((0, 1), (0, 1)))):
            self.assertSame(web_error(value=value), web_error(value))

    def test_again(self):
        values = [SQUARE, None, (11, ()), (4, ((1, 0),)), (4, ((0, 2), (0, 1))), (True, ()), PATH]
        first = [web_error(value) for value in values]
        backwards = [web_error(value) for value in reversed(values)]
        self.assertSame(backwards[::-1], first)
        self.assertSame([web_error(value) for value in values], first)

    def test_equal_values_of_unlike_kinds(self):
        # Whatever is kept of the first call must not serve the second one.
        for _ in range(2):
            self.assertIsNone(web_error((4, ((0, 1),))))
            self.assertSame(web_error((4, ((0, True),))), ("line", 0))
            self.assertSame(web_error((4, ((False, 1),))), ("line", 0))

    def test_what_is_handed_in_stays(self):
        values = [[4, [(0, 1)]], {4: [1]}, (4, [[0, 1]]), (4, ([1, 0], {0: [1]})), ([2], ()), list(SQUARE)]
        for value in values:
            before = copy.deepcopy(value)
            web_error(value)
            self.assertSame(value, before)

    def test_what_was_returned_may_be_handed_in(self):
        self.assertSame(web_error(web_error((11, ()))), "form")
        self.assertSame(web_error(web_error((4, ((0, 4),)))), "form")
        self.assertSame(web_error(numbers(SQUARE)), "form")
        self.assertSame(web_error(numbers((2, ()))), "form")
        for web in (contrary(PATH), renamed(STAR, (3, 2, 1, 0)), one_more(PAIR, True)):
            self.assertIsNone(web_error(web))
            self.assertSame(web_error((web, web)), "many")
            self.assertSame(web_error((web[0] - 3, web[1])), told_error((web[0] - 3, web[1])))


if __name__ == "__main__":
    unittest.main()
