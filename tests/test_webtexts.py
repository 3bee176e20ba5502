"""web_text and read_web: texts of webs, there and back, and texts that are none."""

import copy
import unittest

from oddlines.errors import BadText
from oddlines.webs import renamed
from oddlines.webtexts import read_web, web_text
from support import (
    PAIR, PATH, SQUARE, STAR, Case, all_pairs, all_webs, empty_web, full_web, strings_of_all_kinds,
    values_of_all_kinds, webs_to_try,
)

SIGNS = [chr(code) for code in range(32, 127)] + ["\n"]


def told_text(web):
    """The text of a web, put together sign by sign from the words of the document."""
    text = str(web[0]) + ":"
    for a, b in web[1]:
        text += " " + str(a) + "-" + str(b)
    return text if web[1] else text + " none"


class TextCase(Case):

    def assertBad(self, value):
        with self.assertRaises(BadText, msg=repr(value)[:80]) as caught:
            read_web(value)
        self.assertIs(type(caught.exception), BadText)


class Examples(TextCase):

    def test_texts(self):
        self.assertSame(web_text(STAR), "4: 0-1 0-2 0-3")
        self.assertSame(web_text((3, ())), "3: none")
        self.assertSame(read_web("4: 0-1"), PAIR)
        self.assertSame(read_web(web_text(PATH)), PATH)
        self.assertSame(read_web("10: 8-9"), (10, ((8, 9),)))

    def test_texts_that_are_none(self):
        for value in ("4: 1-0", "4: 0-2 0-1", "4:", "04: none", "4: none ", "1: none"):
            self.assertBad(value)


class There(TextCase):

    def test_each_text(self):
        for web in webs_to_try():
            self.assertSame(web_text(web), told_text(web))

    def test_without_lines_and_with_all(self):
        for many in range(2, 11):
            self.assertSame(web_text(empty_web(many)), f"{many}: none")
            self.assertSame(read_web(f"{many}: none"), empty_web(many))
            lines = " ".join(f"{a}-{b}" for a, b in all_pairs(many))
            self.assertSame(web_text(full_web(many)), f"{many}: {lines}")
            self.assertSame(read_web(f"{many}: {lines}"), full_web(many))

    def test_with_one_line(self):
        for many in range(2, 11):
            for a, b in all_pairs(many):
                self.assertSame(web_text((many, ((a, b),))), f"{many}: {a}-{b}")
                self.assertSame(read_web(f"{many}: {a}-{b}"), (many, ((a, b),)))

    def test_there_and_back(self):
        for web in webs_to_try():
            self.assertSame(read_web(web_text(web)), web)

    def test_unlike_webs_have_unlike_texts(self):
        webs = [web for many in range(2, 6) for web in all_webs(many)]
        texts = [web_text(web) for web in webs]
        self.assertEqual(len(set(texts)), len(webs))
        self.assertSame([read_web(text) for text in texts], webs)


class NoTexts(TextCase):

    def test_none_beside_lines(self):
        for value in (
            "4: none 0-1", "4: 0-1 none", "4: 0-1 none 0-2", "4: none none", "4: none: none",
            "4: None", "4: NONE", "4: non", "4: nones", "4: one", "4: no ne", "4: -", "4: ()",
        ):
            self.assertBad(value)

    def test_nothing_behind_the_colon(self):
        for many in range(2, 11):
            for value in (f"{many}:", f"{many}: ", f"{many}:  ", f"{many}", f"{many} ", f"{many}:\n"):
                self.assertBad(value)

    def test_blanks_more_and_fewer(self):
        for text in ("4: none", "4: 0-1", "4: 0-1 0-2 2-3", "10: 0-9 8-9"):
            for place in range(len(text) + 1):
                for sign in (" ", "  ", "\n", "\t"):
                    self.assertBad(text[:place] + sign + text[place:])
            for place, sign in enumerate(text):
                if sign == " ":
                    self.assertBad(text[:place] + text[place + 1:])
                    for other in ("\n", "\t", ",", ", ", ";", "_", "\xa0"):
                        self.assertBad(text[:place] + other + text[place + 1:])

    def test_ahead_and_behind(self):
        for text in ("4: none", "4: 0-1", "10: 8-9"):
            for sign in SIGNS:
                self.assertBad(text + sign)
                self.assertBad(sign + text)
            self.assertBad(text + text)
            self.assertBad(text + " " + text)
            self.assertBad(text + "\n" + text)

    def test_noughts_ahead(self):
        for value in (
            "04: none", "004: 0-1", "010: none", "4: 00-1", "4: 0-01", "4: 01-2", "4: 1-02",
            "4: 000000-1", "4: 0-1 00-2", "4: -0-1", "4: 0--1", "4: +0-1", "+4: none", "-4: none",
        ):
            self.assertBad(value)

    def test_other_signs_than_figures(self):
        for figure in ("\u0664", "\uff14", "\u00b2", "\u2463", "\u09ea"):
            self.assertBad(figure + ": none")
            self.assertBad("6: 0-" + figure)
        for value in ("4.0: none", "4_: none", "1_0: none", "0x4: none", "IV: none", "four: none", "4: a-b",
                      "4: 0-1.0", "4: 0:1", "4: 0 1", "4: 01", "4: 0-1-2", "4: 0-", "4: -1", "4: 0_1"):
            self.assertBad(value)

    def test_figures_by_hundreds_and_thousands(self):
        for many in (400, 4299, 4301, 19000):
            for figure in "019":
                self.assertBad(figure * many)
                self.assertBad(figure * many + ": none")
                self.assertBad("4: 0-" + figure * many)
                self.assertBad("4: " + figure * many + "-1")
                self.assertBad("4: 0-1 " + figure * many)
        self.assertBad("4:" + " 0-1" * 4000)
        self.assertBad("4:" + " 0-1 0-2" * 2000)

    def test_lines_turned_about(self):
        for many in range(2, 11):
            for a, b in all_pairs(many):
                self.assertBad(f"{many}: {b}-{a}")
        self.assertBad("4: 0-1 3-2")
        self.assertBad("4: 1-0 2-3")

    def test_lines_twice_and_in_another_order(self):
        for a, b in all_pairs(5):
            self.assertBad(f"5: {a}-{b} {a}-{b}")
            for c, d in all_pairs(5):
                text = f"5: {a}-{b} {c}-{d}"
                if (a, b) < (c, d):
                    self.assertSame(read_web(text), (5, ((a, b), (c, d))))
                else:
                    self.assertBad(text)
        self.assertBad("4: 0-1 0-2 0-1")
        self.assertBad("4: 0-1 1-2 0-2 2-3")

    def test_people_beyond_and_to_oneself(self):
        for many in range(2, 11):
            for person in range(many):
                self.assertBad(f"{many}: {person}-{person}")
                self.assertBad(f"{many}: {person}-{many}")
                self.assertBad(f"{many}: 0-1 {person}-{many + 1}")
            self.assertBad(f"{many}: {many}-{many + 1}")
        self.assertBad("9: 8-9")
        self.assertBad("10: 9-10")

    def test_few_and_many_people(self):
        for many in ("", "0", "1", "11", "12", "20", "100", "-1", "-2", "None", "True"):
            self.assertBad(many + ": none")
            self.assertBad(many + ": 0-1")

    def test_each_text_with_one_sign_changed(self):
        texts = {web_text(web): web for many in range(2, 6) for web in all_webs(many)}
        texts.update({web_text(web): web for web in [empty_web(many) for many in range(2, 11)]})
        for text in ("3: none", "4: 0-1 1-2", "5: 0-1 0-4 3-4"):
            for place in range(len(text)):
                changed = [text[:place] + sign + text[place + 1:] for sign in SIGNS]
                for value in changed + [text[:place] + text[place + 1:], text[:place]]:
                    if value in texts:
                        self.assertSame(read_web(value), texts[value])
                    elif not value.startswith(("6", "7", "8", "9")):
                        self.assertBad(value)

    def test_other_strings(self):
        for value in strings_of_all_kinds():
            self.assertBad(value)

    def test_what_is_no_string(self):
        for value in values_of_all_kinds() + [SQUARE, ["4: none"], ("4: none",), {"4: none": 1}]:
            self.assertBad(value)


class Calls(TextCase):

    def test_by_name(self):
        self.assertSame(web_text(web=STAR), "4: 0-1 0-2 0-3")
        self.assertSame(read_web(value="4: 0-1"), PAIR)
        with self.assertRaises(BadText):
            read_web(value="4:")

    def test_again(self):
        for _ in range(3):
            self.assertSame(web_text(SQUARE), "4: 0-1 0-3 1-2 2-3")
            self.assertSame(read_web("4: 0-1 0-3 1-2 2-3"), SQUARE)
            self.assertBad("4: 0-1 0-3 1-2 3-2")
            self.assertSame(web_text((4, ())), "4: none")
            self.assertBad(4)

    def test_what_is_returned_cannot_change(self):
        for web in (SQUARE, (2, ()), full_web(10)):
            hash(read_web(web_text(web)))

    def test_what_is_handed_in_stays(self):
        for value in values_of_all_kinds():
            before = copy.deepcopy(value)
            self.assertBad(value)
            self.assertSame(value, before)

    def test_texts_of_webs_that_were_returned(self):
        for web in (renamed(STAR, (3, 2, 1, 0)), read_web("6: 0-5 1-2")):
            self.assertSame(read_web(web_text(web)), web)


if __name__ == "__main__":
    unittest.main()
