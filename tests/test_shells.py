"""Shell: a desk that is led by lines of text."""

import copy
import random
import re
import unittest

from oddlines.desks import Desk
from oddlines.errors import OddError, Unfit
from oddlines.oddsets import web_for
from oddlines.shells import Shell
from oddlines.spreads import may_have
from oddlines.webtexts import read_web, web_text
from pairs import deeds_in, drawn_pairs, joined_pairs, told_mark
from support import (
    OTHER_STAR, PAIR, PATH, SQUARE, STAR, Case, all_odd_sets, all_webs, empty_web, full_web, nested, sample_webs,
    strings_of_all_kinds, told_class, told_locked, told_numbers, told_odd_set, values_of_all_kinds,
)

INT = "(0|[1-9][0-9]{0,2})"
FORMS = [
    "(web|joined) (.*)", f"(draw|strike) {INT} {INT}", f"(exchange) {INT} {INT} {INT} {INT}", f"(may) {INT}",
    "(undo|redo|show|numbers|odd|locked)",
]
LINES = [
    "show", "numbers", "odd", "locked", "undo", "redo", "may 0", "may 9", "draw 0 1", "strike 0 1", "exchange 0 1 2 3",
    "joined 4: none", "joined", "joined ", "joined x", "web 4: 0-1 0-2 0-3", "web 4: none", "web", "web ", "web x",
]


def read(line):
    """The word of a line and what stands behind it, by the words of [J4]; None if it is none."""
    for form in FORMS:
        found = re.fullmatch(form, line, re.DOTALL) if type(line) is str else None
        if found is not None:
            word, *given = found.groups()
            return (word, given if word in ("web", "joined") else [int(one) for one in given])
    return None


def words(items):
    return " ".join(str(item) for item in items) or "none"


def answer(desk, word, given):
    """What is told of a line that is no "web TEXT", by a desk."""
    if word in ("undo", "redo", "draw", "strike", "exchange"):
        calls = {"undo": desk.undo, "redo": desk.redo, "draw": desk.draw, "strike": desk.strike}
        return "version " + str(calls.get(word, desk.exchange)(*given))
    web = desk.web
    if word == "joined":
        found = told_mark(web, read_web(given[0]))
        return "yes" if found is None else found if found == "many" else words(found)
    if word == "may":
        if given[0] >= web[0]:
            raise Unfit()
        return words(may_have(web, given[0]))
    locks = told_locked(web[0], told_odd_set(web))
    return {
        "show": web_text(web),
        "numbers": words(told_numbers(web)),
        "odd": words(told_odd_set(web)),
        "locked": words(f"{number}:{person}" for number, person in zip(locks, told_class(web)[2])),
    }[word]


class Plain:
    """What a shell is to do, told with a desk."""

    def __init__(self):
        self.desk = None

    def say(self, line):
        told = read(line)
        if told is None:
            return "what"
        word, given = told
        if self.desk is None and word != "web":
            return "no desk"
        try:
            if word == "web":
                self.desk = Desk(read_web(given[0]))
                return "version 0"
            return answer(self.desk, word, given)
        except OddError as error:
            return "error " + type(error).__name__


def shell_of(web):
    shell = Shell()
    shell.say("web " + web_text(web))
    return shell


def state(shell):
    """All that can be heard of a shell, with what can be done again; the shell is as before then."""
    told = [shell.say(line) for line in ("show", "numbers", "odd", "locked")]
    count = 0
    while not told[0].startswith("no") and shell.say("redo").startswith("version"):
        told.append(shell.say("show"))
        count += 1
    for _ in range(count):
        told.append(shell.say("undo"))
    return told


class Examples(Case):

    def test_all(self):
        s = Shell()
        lines = (
            "show", "web 4: 0-1", "numbers", "odd", "locked", "draw 2 3", "draw 2 3", "draw 3 2", "draw 0 4", "show",
            "may 0", "may 4",
        )
        self.assertSame([s.say(line) for line in lines], [
            "no desk", "version 0", "1 1 0 0", "none", "none", "version 1", "error Refused", "error Unfit",
            "error Unfit", "4: 0-1 2-3", "0 1 2 3", "error Unfit",
        ])
        lines = (
            "joined 4: none", "joined 4: 0-1 0-2 0-3", "joined 3: none", "undo", "undo", "web 4: 0-1 0-2 0-3", "odd",
            "locked", "joined 4: 0-1 1-2 1-3", "may 0", "web 4", "draw 02 3", 7,
        )
        self.assertSame([s.say(line) for line in lines], [
            "yes", "odd 1", "many", "version 0", "error NothingToUndo", "version 0", "1 3", "3:0", "holder 3", "3",
            "error BadText", "what", "what",
        ])


class WithoutDesk(Case):

    def test_each_line(self):
        for line in LINES + ["draw 7 7", "exchange 1 1 1 1", "may 999"]:
            shell, plain = Shell(), Plain()
            self.assertSame(shell.say(line), plain.say(line), line)
            self.assertSame(shell.say("show"), plain.say("show"))
        for line in ("show", "undo", "redo", "may 0", "draw 0 1", "joined 4: none", "joined ", "joined x"):
            self.assertSame(Shell().say(line), "no desk")
        for line in ("web", "joined", "draw", "draw 1", "may", "may x", "what", "", "no desk", "draw 01 2"):
            self.assertSame(Shell().say(line), "what")
        self.assertSame(Shell().say("web x"), "error BadText")

    def test_a_bad_text_makes_no_desk(self):
        shell = Shell()
        for line in ("web x", "web ", "web 4", "web 4:", "web 4: 1-0", "web  4: none", "web 4: none ", "web 11: none"):
            self.assertSame(shell.say(line), "error BadText")
            self.assertSame(shell.say("show"), "no desk")
        self.assertSame(shell.say("web 4: none"), "version 0")
        self.assertSame(shell.say("show"), "4: none")


class Lines(Case):

    def test_all_webs_of_few_people_and_larger_ones(self):
        webs = [web for many in (2, 3, 4) for web in all_webs(many)]
        for web in webs + [web for many in range(5, 11) for web in sample_webs(many, 5)]:
            shell, plain = Shell(), Plain()
            lines = ["web " + web_text(web), "show", "numbers", "odd", "locked", "undo", "redo"]
            for line in lines + [f"may {person}" for person in range(web[0] + 2)]:
                self.assertSame(shell.say(line), plain.say(line), (web, line))

    def test_each_odd_set_and_its_holders(self):
        for many in range(2, 11):
            for one, other in joined_pairs(many, 1)[::3]:
                shell, plain = Shell(), Plain()
                for line in ("web " + web_text(one), "odd", "locked", "joined " + web_text(other), "may 1"):
                    self.assertSame(shell.say(line), plain.say(line))
                self.assertSame(shell.say("joined " + web_text(other)), "yes")

    def test_joined(self):
        for one, other in drawn_pairs()[::5]:
            found = told_mark(one, other)
            wanted = "yes" if found is None else f"{found[0]} {found[1]}"
            self.assertSame(shell_of(one).say("joined " + web_text(other)), wanted)
        for many in range(3, 11):
            self.assertSame(shell_of(empty_web(many)).say("joined " + web_text(full_web(many - 1))), "many")
        shell = shell_of(STAR)
        self.assertSame(shell.say("joined " + web_text(OTHER_STAR)), "holder 3")
        for text in (
            "", " ", "4", "4:", "4: ", "4: none ", " 4: none", "4:none", "04: none", "none", "4: 1-0", "x" * 9999,
        ):
            self.assertSame(shell.say("joined " + text), "error BadText")
        self.assertSame(shell.say("show"), "4: 0-1 0-2 0-3")

    def test_odd_sets_of_all_sizes(self):
        for many in range(2, 11):
            for chosen in all_odd_sets(many):
                self.assertSame(shell_of(web_for(many, chosen)).say("odd"), words(chosen))

    def test_rows_of_lines(self):
        for many in range(2, 11):
            chance = random.Random(many)
            for web in sample_webs(many, 3):
                shell, plain = shell_of(web), Plain()
                plain.say("web " + web_text(web))
                for _ in range(50):
                    deed = chance.choice(deeds_in(plain.desk.web))
                    people = " ".join(str(chance.randrange(many + 1)) for _ in range(chance.choice((2, 2, 4))))
                    line = chance.choice([words(deed)] * 5 + ["undo", "redo", "undo", "show", "numbers", "locked"] + [
                        "draw " + people, "strike " + people, "exchange " + people,
                    ])
                    self.assertSame(shell.say(line), plain.say(line), line)
                self.assertSame(state(shell), state(plain))

    def test_a_new_desk_takes_the_place_of_the_elder_one(self):
        shell = shell_of(SQUARE)
        self.assertSame(shell.say("draw 0 2"), "version 1")
        self.assertSame(shell.say("web 3: none"), "version 0")
        self.assertSame([shell.say(line) for line in ("show", "undo", "redo")], [
            "3: none", "error NothingToUndo", "error NothingToRedo",
        ])
        self.assertSame(shell.say("web 4: 0-1 0-3 1-2 2-3"), "version 0")
        self.assertSame(shell.say("undo"), "error NothingToUndo")

    def test_two_shells(self):
        one, other = Shell(), Shell()
        one.say("web 4: none")
        self.assertSame(other.say("show"), "no desk")
        other.say("web 3: none")
        self.assertSame((one.say("draw 0 1"), other.say("show"), one.say("show")), ("version 1", "3: none", "4: 0-1"))


class Errors(Case):

    def test_each_class(self):
        shell = shell_of(SQUARE)
        for line, wanted in (
            ("undo", "NothingToUndo"), ("redo", "NothingToRedo"), ("draw 0 1", "Refused"), ("strike 0 2", "Refused"),
            ("exchange 0 1 3 2", "Refused"), ("draw 1 0", "Unfit"), ("draw 0 0", "Unfit"), ("draw 0 4", "Unfit"),
            ("draw 0 999", "Unfit"), ("strike 3 0", "Unfit"), ("exchange 0 1 2 2", "Unfit"), ("may 4", "Unfit"),
            ("exchange 0 1 2 4", "Unfit"), ("may 999", "Unfit"), ("web x", "BadText"), ("joined x", "BadText"),
            ("web ", "BadText"), ("joined ", "BadText"), ("web 1: none", "BadText"), ("joined 4: 0-4", "BadText"),
        ):
            before = state(shell)
            self.assertSame(shell.say(line), "error " + wanted, line)
            self.assertEqual(state(shell), before)

    def test_too_many_edits(self):
        shell = shell_of(PAIR)
        for number in range(40):
            word = "strike" if number % 2 == 0 else "draw"
            self.assertSame(shell.say(word + " 0 1"), f"version {number + 1}")
        self.assertSame(shell.say("strike 0 1"), "error TooManyEdits")
        self.assertSame(shell.say("draw 0 1"), "error Refused")
        self.assertSame(shell.say("draw 1 0"), "error Unfit")
        self.assertSame((shell.say("undo"), shell.say("redo")), ("version 39", "version 40"))

    def test_errors_change_nothing(self):
        shell = shell_of(SQUARE)
        for line in ("draw 0 2", "draw 1 3", "undo", "undo"):
            shell.say(line)
        before = state(shell)
        for line in LINES + ["draw 3 1", "draw 0 9", "may 7", "web 4: 9-9", "joined 5: none", "web 4:  none"]:
            if line not in ("web 4: 0-1 0-2 0-3", "web 4: none", "redo", "strike 0 1", "exchange 0 1 2 3"):
                shell.say(line)
                self.assertEqual(state(shell), before, line)
        self.assertSame([shell.say("redo"), shell.say("redo"), shell.say("redo")], [
            "version 1", "version 2", "error NothingToRedo",
        ])


class What(Case):

    def assertAlike(self, lines):
        """With a desk and without one a shell tells what [J4] tells, and none of these lines changes it."""
        for text in (None, web_text(PATH)):
            shell, plain = Shell(), Plain()
            if text is not None:
                shell.say("web " + text)
                plain.say("web " + text)
            for line in lines:
                self.assertSame(shell.say(line), plain.say(line), repr(line)[:100])

    def test_blanks_more_and_fewer(self):
        lines = []
        for line in LINES:
            lines += [" " + line, line + " ", line + "\n", "\n" + line, line[:-1], line + line, line + " " + line]
            lines += [line.replace(" ", other, 1) for other in ("  ", "", "\n", "\t", "-")]
        self.assertAlike(lines)
        shell = shell_of(SQUARE)
        for line in (" show", "show ", "show\n", "draw 0  2", "draw  0 2", "draw 0 2 ", "draw 02", "draw0 2", "may  0"):
            self.assertSame(shell.say(line), "what", line)
        self.assertSame((shell.say("web  4: none"), shell.say("web 4: none ")), ("error BadText",) * 2)

    def test_figures(self):
        shell = shell_of(full_web(10))
        right = [str(number) for number in range(1000)]
        wrong = [
            "00", "01", "007", "000", "1000", "9999", "0000", "-1", "+1", "-0", "+0", "1.0", "1e1", "0x1", "1_0", "",
            " ", "a", "one", "0b1", "1,", "(1)", "1" * 20000, "0" * 20000, "True", "None", "'1'", "\n1", "1\n", "\u0661",
            "\u00b2", "\uff11",
        ]
        self.assertSame([shell.say("may " + text) == "what" for text in right], [False] * 1000)
        for text in wrong:
            lines = [f"may {text}", f"draw {text} 2", f"draw 0 {text}", f"strike {text} {text}", f"exchange 0 1 2 {text}"]
            for line in lines:
                self.assertSame(shell.say(line), "what", line[:50])
        for text in right[10::97]:
            for line in (f"may {text}", f"draw 0 {text}", f"strike {text} 2", f"exchange 0 {text} 2 3"):
                self.assertSame(shell.say(line), "error Unfit", line)

    def test_too_few_and_too_many_figures(self):
        lines = [words([word] + list(range(count))) for word in (
            "draw", "strike", "exchange", "undo", "redo", "show", "numbers", "odd", "locked", "may",
        ) for count in range(7)]
        self.assertAlike(lines)
        shell = shell_of(SQUARE)
        for line in ("draw", "draw 0", "draw 0 1 2", "exchange 0 1 2", "exchange 0 1 2 3 0", "undo 1", "show 0", "may"):
            self.assertSame(shell.say(line), "what", line)

    def test_great_letters_and_other_words(self):
        lines = [line.upper() for line in LINES] + [line.capitalize() for line in LINES]
        lines += ["help", "quit", "exit", "at 0", "copy", "log", "version", "holders", "way 4: none", "desk 4: none"]
        lines += ["webs 4: none", "we 4: none", "join 4: none", "odd set", "no desk", "error Unfit", "what", "none"]
        self.assertAlike(lines)
        for line in lines:
            if line != "":
                self.assertSame(shell_of(SQUARE).say(line), "what", line)

    def test_values_of_all_kinds(self):
        values = values_of_all_kinds() + strings_of_all_kinds()
        values += [nested(3), ["show"], ("show",), b"show", {"show": 1}, 7, True, Desk(SQUARE), SQUARE]
        self.assertAlike(values)
        shell = shell_of(SQUARE)
        for value in values:
            before = copy.deepcopy(value)
            if value != "odd":
                self.assertSame(shell.say(value), "what", repr(value)[:50])
            self.assertEqual(value, before)
        self.assertSame((shell.say("show"), shell.say("undo")), (web_text(SQUARE), "error NothingToUndo"))

    def test_texts_of_all_kinds(self):
        self.assertAlike([f"{word} {text}" for word in ("web", "joined") for text in strings_of_all_kinds()])


class Calls(Case):

    def test_by_name_and_again(self):
        for _ in range(2):
            shell = Shell()
            self.assertSame(shell.say(line="web 4: 0-1"), "version 0")
            self.assertSame([shell.say(line="numbers"), shell.say("numbers")], ["1 1 0 0"] * 2)
            self.assertSame(shell.say(line=None), "what")


if __name__ == "__main__":
    unittest.main()
