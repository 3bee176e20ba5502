"""Shells: desks that are led by lines of text."""

from oddlines.desks import Desk
from oddlines.errors import OddError, Unfit
from oddlines.marks import mark
from oddlines.spreads import may_have
from oddlines.webtexts import read_web, web_text

# The words of all lines with how many integers stand behind them, but for those that a text stands behind.
COUNTS = {
    "draw": 2,
    "strike": 2,
    "exchange": 4,
    "undo": 0,
    "redo": 0,
    "show": 0,
    "numbers": 0,
    "odd": 0,
    "locked": 0,
    "may": 1,
}


def _is_int_text(text):
    """Tell whether text is an integer from 0 to 999, without noughts ahead of other figures."""
    # Figures of other scripts are decimal for Python, too.
    if not text.isdecimal() or not text.isascii() or len(text) > 3:
        return False
    return text == "0" or text[0] != "0"


def _parts(line):
    """Return the word of line and the list of what stands behind it, None if it is no line that is told."""
    word, blank, rest = line.partition(" ")
    if word in ("web", "joined"):
        return (word, [rest]) if blank else None
    parts = rest.split(" ") if blank else []
    if COUNTS.get(word) != len(parts) or not all([_is_int_text(part) for part in parts]):
        return None
    return (word, [int(part) for part in parts])


def _words(items):
    return " ".join([str(item) for item in items]) if items else "none"


def _may_text(web, person):
    if person >= web[0]:
        raise Unfit()
    return _words(may_have(web, person))


def _joined_text(web, other):
    found = mark(web, other)
    if found is None:
        return "yes"
    return found if found == "many" else _words(found)


def _told(desk, word, given):
    """Return what desk tells of its web for a line of this word."""
    if word == "show":
        return web_text(desk.web)
    if word == "numbers":
        return _words(desk.numbers)
    if word == "odd":
        return _words(desk.odd_set)
    if word == "locked":
        return _words([f"{number}:{person}" for number, person in desk.holders])
    if word == "may":
        return _may_text(desk.web, given[0])
    return _joined_text(desk.web, read_web(given[0]))


def _edited(desk, word, given):
    """Do an edit at desk, or take one back, or do it again; return the version then."""
    if word == "undo":
        return desk.undo()
    if word == "redo":
        return desk.redo()
    return desk.edit((word, *given))


class Shell:
    """A desk, at first none, that is led by lines of text."""

    def __init__(self):
        self._desk = None

    def _answer(self, word, given):
        """Return the answer to a line that is told, of this word, with what was given behind it."""
        if word == "web":
            self._desk = Desk(read_web(given[0]))
            return "version 0"
        if self._desk is None:
            return "no desk"
        if word in ("draw", "strike", "exchange", "undo", "redo"):
            version = _edited(self._desk, word, given)
            return f"version {version}"
        return _told(self._desk, word, given)

    def say(self, line):
        """Return the answer to line, any value."""
        read = _parts(line) if isinstance(line, str) else None
        if read is None:
            return "what"
        word, given = read
        try:
            return self._answer(word, given)
        except OddError as error:
            return "error " + type(error).__name__
