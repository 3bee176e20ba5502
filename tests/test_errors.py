"""The classes of errors: their bases, their fields, and how they are made."""

import unittest

from oddlines import errors
from oddlines.errors import OddError
from support import PAIR, Case, nested

FIELDS = {
    "Unfit": [],
    "BadText": [],
    "BadWeb": ["error"],
    "Refused": ["deed"],
    "Apart": ["mark"],
    "TooMany": ["limit"],
    "TooManyEdits": [],
    "NothingToUndo": [],
    "NothingToRedo": [],
    "NoVersion": ["given"],
    "BadLog": ["place"],
}
WITHOUT = [getattr(errors, name) for name, fields in FIELDS.items() if not fields]
WITH_ONE = [(getattr(errors, name), fields[0]) for name, fields in FIELDS.items() if fields]


def values_of_many_kinds():
    return [
        None, True, False, 0, 1, -1, 10, 10 ** 399, -(10 ** 399), "", "a", "two\nlines", "x" * 20000,
        (), (1,), (True,), (1, True), ("draw", 0, 1), ("odd", 3), ("line", 0), [], [1, [True, {}]],
        {}, {"a": [1], 2: (), (0, 1): None}, PAIR, nested(20), tuple(range(4000)),
    ]


class Bases(Case):

    def test_odd_error_is_a_value_error(self):
        self.assertEqual(OddError.__bases__, (ValueError,))

    def test_all_stand_directly_under_odd_error(self):
        for name in FIELDS:
            self.assertEqual(getattr(errors, name).__bases__, (OddError,), name)

    def test_none_is_another_one(self):
        for one in FIELDS:
            for other in FIELDS:
                is_under = issubclass(getattr(errors, one), getattr(errors, other))
                self.assertEqual(is_under, one == other, (one, other))

    def test_each_is_caught_as_what_it_is(self):
        for told in WITHOUT:
            for kind in (told, OddError, ValueError):
                with self.assertRaises(kind):
                    raise told()
        for told, _ in WITH_ONE:
            for kind in (told, OddError, ValueError):
                with self.assertRaises(kind):
                    raise told(3)


class Fields(Case):

    def test_made_without_arguments(self):
        for told in WITHOUT:
            self.assertIs(type(told()), told)
            self.assertIsInstance(str(told()), str)

    def test_made_by_place(self):
        for told, field in WITH_ONE:
            for value in values_of_many_kinds():
                self.assertIs(getattr(told(value), field), value)

    def test_made_by_name(self):
        for told, field in WITH_ONE:
            for value in values_of_many_kinds():
                self.assertIs(getattr(told(**{field: value}), field), value)

    def test_the_argument_has_to_be_there(self):
        for told, field in WITH_ONE:
            for wrong in ((), (1, 2)):
                with self.assertRaises(TypeError):
                    told(*wrong)
            with self.assertRaises(TypeError):
                told(**{field + "s": 1})

    def test_what_is_handed_in_stays(self):
        for told, field in WITH_ONE:
            for value, kept in zip(values_of_many_kinds(), values_of_many_kinds()):
                self.assertSame(getattr(told(value), field), kept)
                self.assertSame(value, kept)

    def test_fields_are_kept_through_a_raise(self):
        for told, field in WITH_ONE:
            for value in values_of_many_kinds():
                with self.assertRaises(told) as caught:
                    raise told(value)
                self.assertIs(getattr(caught.exception, field), value)

    def test_two_of_a_class_keep_each_their_own(self):
        for told, field in WITH_ONE:
            first, second = told(1), told((2,))
            self.assertSame((getattr(first, field), getattr(second, field)), (1, (2,)))

    def test_they_can_be_shown(self):
        for told, field in WITH_ONE:
            for error in (told(None), told(**{field: [1]})):
                self.assertIsInstance(str(error), str)
                self.assertIsInstance(repr(error), str)


if __name__ == "__main__":
    unittest.main()
