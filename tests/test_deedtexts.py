"""deeds_text and read_deeds: texts of deeds, there and back, and texts that are none."""

import copy
import random
import unittest

from oddlines.bounds import MAX_DEEDS
from oddlines.deeds import exchanges, turned
from oddlines.deedtexts import deeds_text, read_deeds
from oddlines.errors import BadText
from support import (
    PATH, Case, all_deeds, run_from, sample_webs, strings_of_all_kinds, values_of_all_kinds,
)

SIGNS = [chr(code) for code in range(32, 127)] + ["\n"]
DEEDS = all_deeds(10)


def told_text(some):
    """The text of deeds, put together sign by sign from the words of the document."""
    text = ""
    for deed in some:
        text += "; " if text else ""
        text += deed[0]
        for person in deed[1:]:
            text += " " + str(person)
    return text or "none"


def some_rows():
    chance = random.Random(7)
    return [tuple(chance.choice(DEEDS) for _ in range(size)) for size in list(range(12)) * 5 + [100, 999]]


class TextCase(Case):

    def assertBad(self, value):
        with self.assertRaises(BadText, msg=repr(value)[:80]) as caught:
            read_deeds(value)
        self.assertIs(type(caught.exception), BadText)


class Examples(TextCase):

    def test_texts(self):
        self.assertSame(deeds_text((("draw", 0, 1), ("exchange", 0, 1, 2, 3))), "draw 0 1; exchange 0 1 2 3")
        self.assertSame(deeds_text(()), "none")
        self.assertSame(
            read_deeds("strike 2 9; exchange 3 2 1 0"), (("strike", 2, 9), ("exchange", 3, 2, 1, 0))
        )

    def test_texts_that_are_none(self):
        for value in ("draw 1 0", "draw 0 10", "exchange 0 1 1 2", "draw 0 1;strike 0 1", ""):
            self.assertBad(value)


class There(TextCase):

    def test_none(self):
        self.assertSame(deeds_text(()), "none")
        self.assertSame(read_deeds("none"), ())

    def test_each_single_deed(self):
        for deed in DEEDS:
            text = told_text((deed,))
            self.assertSame(deeds_text((deed,)), text)
            self.assertSame(read_deeds(text), (deed,))

    def test_many_deeds(self):
        for some in some_rows():
            self.assertSame(deeds_text(some), told_text(some))
            self.assertSame(read_deeds(told_text(some)), some)
            self.assertSame(read_deeds(deeds_text(some)), some)

    def test_the_same_deed_twice(self):
        some = (("draw", 0, 9), ("draw", 0, 9))
        self.assertSame(deeds_text(some), "draw 0 9; draw 0 9")
        self.assertSame(read_deeds("draw 0 9; draw 0 9"), some)

    def test_unlike_rows_have_unlike_texts(self):
        rows = [()] + [(deed,) for deed in DEEDS] + [
            (one, other) for one in DEEDS[::151] for other in DEEDS[::149]
        ]
        self.assertEqual(len({deeds_text(some) for some in rows}), len(set(rows)))

    def test_deeds_that_were_returned(self):
        for some in (exchanges(PATH), turned(exchanges(PATH)), run_from(sample_webs(9, 2)[2], 10, 3)[0]):
            self.assertSame(read_deeds(deeds_text(some)), some)

    def test_as_many_as_may_be_and_one_more(self):
        some = (("draw", 0, 1), ("exchange", 9, 8, 7, 6)) * (MAX_DEEDS // 2)
        text = deeds_text(some)
        self.assertEqual(text.count(";"), 19999)
        self.assertEqual(text, told_text(some))
        self.assertEqual(read_deeds(text), some)
        self.assertBad(text + "; draw 0 1")
        self.assertBad("draw 0 1; " + text)
        self.assertBad(text + "; ")
        self.assertBad(text + "; none")
        self.assertBad(text + "; draw 1 0")


class NoTexts(TextCase):

    def test_signs_left_out_put_in_and_doubled(self):
        good = {told_text((deed,)): (deed,) for deed in DEEDS}
        for text in ("none", "draw 0 1", "strike 2 9", "exchange 3 2 1 0", "draw 0 1; strike 0 1",
                     "exchange 9 0 1 2; draw 0 9; draw 1 2"):
            for place in range(len(text) + 1):
                for sign in SIGNS:
                    self.assertBad(text[:place] + sign + text[place:])
            for place, sign in enumerate(text):
                self.assertBad(text[:place] + text[place + 1:])
                self.assertBad(text[:place] + sign + text[place:])
                for other in SIGNS:
                    value = text[:place] + other + text[place + 1:]
                    if value in good:
                        self.assertSame(read_deeds(value), good[value])
                    elif ";" not in text and value != text:
                        self.assertBad(value)

    def test_other_blanks(self):
        for value in (
            "draw  0 1", "draw 0  1", " draw 0 1", "draw 0 1 ", "draw\t0 1", "draw 0\n1", "draw\xa00 1", "draw 0 1\n",
            "\ndraw 0 1", "draw 0 1 ; draw 0 1", "draw 0 1;  draw 0 1", "draw 0 1;draw 0 1", "draw 0 1;\ndraw 0 1",
            "draw 0 1\ndraw 0 1", "draw 0 1 draw 0 1", "draw 0 1, draw 0 1", "draw 0 1: draw 0 1", "draw0 1", "draw 01",
        ):
            self.assertBad(value)

    def test_semicolons(self):
        for value in (
            ";", "; ", "; ; ", "; draw 0 1", "draw 0 1; ", "draw 0 1;", "draw 0 1; ; draw 0 1", ";draw 0 1",
            "draw 0 1;; draw 0 1", "draw; 0; 1", "; none", "none; ", "none;",
        ):
            self.assertBad(value)

    def test_none_beside_deeds(self):
        for value in (
            "none; draw 0 1", "draw 0 1; none", "none; none", "none none", "none 0 1", "None", "NONE", " none", "none ",
            "nones", "non", "none\n", "()",
        ):
            self.assertBad(value)

    def test_words(self):
        for word in ("Draw", "DRAW", "dra", "drawn", "swap", "line", "", "0", "drawstrike", "exchang", "exchanges"):
            for people in ("0 1", "0 1 2 3"):
                self.assertBad(f"{word} {people}")
        for value in ("draw", "strike", "exchange", "draw ", "0 1", "0 draw 1", "0 1 draw", "draw draw 1"):
            self.assertBad(value)

    def test_more_and_fewer_people(self):
        for word in ("draw", "strike", "exchange"):
            for size in range(10):
                value = " ".join([word] + [str(person) for person in range(size)])
                if size == (4 if word == "exchange" else 2):
                    self.assertSame(read_deeds(value), ((word, *range(size)),))
                else:
                    self.assertBad(value)

    def test_noughts_ahead_and_two_figures(self):
        for value in (
            "draw 00 1", "draw 0 01", "draw 0 001", "strike 01 2", "exchange 0 1 2 03", "exchange 00 1 2 3",
            "draw 0 10", "draw 9 10", "draw 10 11", "exchange 0 1 2 10", "exchange 10 1 2 3", "draw 0 99",
            "draw -1 0", "draw 0 -1", "draw +0 1", "draw 0 1.0", "draw 0 a", "draw 0 0x1", "draw 0 1_0", "draw -0 1",
            "draw 0 " + "1" * 19000, "draw 0 " + "0" * 19000 + "1", "draw 0 \u0661", "draw 0 \uff11", "draw 0 \u00b9",
        ):
            self.assertBad(value)

    def test_people_twice_and_in_the_wrong_order(self):
        for a in range(10):
            for b in range(10):
                for word in ("draw", "strike"):
                    if a < b:
                        self.assertSame(read_deeds(f"{word} {a} {b}"), ((word, a, b),))
                    else:
                        self.assertBad(f"{word} {a} {b}")
        for value in ("0 0 1 2", "0 1 0 2", "0 1 2 0", "1 0 0 2", "1 0 2 0", "1 2 0 0", "3 3 3 3", "0 1 0 1"):
            self.assertBad("exchange " + value)

    def test_one_wrong_deed_among_others(self):
        texts = [told_text((deed,)) for deed in DEEDS[::500]]
        for wrong in ("draw 1 0", "draw 0 10", "none", "", "strike 0", "exchange 0 1 2 2", "draw 0 1 "):
            for place in range(len(texts) + 1):
                self.assertBad("; ".join(texts[:place] + [wrong] + texts[place:]))

    def test_other_strings(self):
        for value in strings_of_all_kinds():
            if value != "none":
                self.assertBad(value)

    def test_what_is_no_string(self):
        for value in values_of_all_kinds() + [
            ("draw", 0, 1), (("draw", 0, 1),), ["draw 0 1"], ("draw 0 1",), {"draw 0 1": 1}, b"draw 0 1", ["none"],
        ]:
            self.assertBad(value)


class Calls(TextCase):

    def test_by_name_and_again(self):
        for _ in range(2):
            self.assertSame(deeds_text(some=(("draw", 0, 1),)), "draw 0 1")
            self.assertSame(read_deeds(value="draw 0 1"), (("draw", 0, 1),))
            self.assertSame(read_deeds(value="none"), ())
            self.assertBad("draw 1 0")
            self.assertBad(None)

    def test_what_is_returned_cannot_change(self):
        for some in some_rows():
            hash(read_deeds(deeds_text(some)))

    def test_what_is_handed_in_stays(self):
        for value in values_of_all_kinds():
            before = copy.deepcopy(value)
            self.assertBad(value)
            self.assertSame(value, before)


if __name__ == "__main__":
    unittest.main()
