"""Deeds: draws, strikes and exchanges of lines, and what comes of them."""

from itertools import combinations, permutations

from oddlines.bounds import MAX_DEEDS
from oddlines.errors import Refused, TooMany
from oddlines.kinds import is_int_between
from oddlines.webs import line_between, numbers


def is_deed(many, value):
    """Tell whether value is a deed of so many people, whether it can be done or not."""
    if not isinstance(value, tuple) or len(value) not in (3, 5):
        return False
    word, *people = value
    if not all([is_int_between(person, 0, many - 1) for person in people]):
        return False
    if len(people) == 4:
        return word == "exchange" and len(set(people)) == 4
    return word in ("draw", "strike") and people[0] < people[1]


def _gone_and_come(deed):
    """Return the lines that go and the lines that come when deed is done."""
    if deed[0] == "exchange":
        _, a, b, c, d = deed
        gone = (line_between(a, b), line_between(c, d))
        return (gone, (line_between(a, c), line_between(b, d)))
    line = deed[1:]
    return ((), (line,)) if deed[0] == "draw" else ((line,), ())


def _can_be_done(web, deed):
    gone, come = _gone_and_come(deed)
    if any([line not in web[1] for line in gone]) or any([line in web[1] for line in come]):
        return False
    if deed[0] == "exchange":
        return True
    told = numbers(web)
    return told[deed[1]] == told[deed[2]]


def deed_error(web, value):
    """Return None if value is a deed that can be done in web, otherwise what is wrong with it."""
    if not is_deed(web[0], value):
        return "form"
    return None if _can_be_done(web, value) else "bar"


def done(web, deed):
    """Return the web that comes when deed is done in web."""
    if deed_error(web, deed) is not None:
        raise Refused(deed)
    many, lines = web
    gone, come = _gone_and_come(deed)
    kept = [line for line in lines if line not in gone]
    return (many, tuple(sorted([*kept, *come])))


def led(web, some):
    """Return the web that comes when all deeds of some are done in web, one behind another."""
    if len(some) > MAX_DEEDS:
        raise TooMany(MAX_DEEDS)
    present = web
    for deed in some:
        present = done(present, deed)
    return present


def _of_two(web, word):
    """Return all deeds of this word, draw or strike, that can be done in web."""
    deeds = [(word, a, b) for a, b in list(combinations(range(web[0]), 2))]
    return tuple([deed for deed in deeds if _can_be_done(web, deed)])


def draws(web):
    """Return all draws that can be done in web, ascending."""
    return _of_two(web, "draw")


def strikes(web):
    """Return all strikes that can be done in web, ascending."""
    return _of_two(web, "strike")


def exchanges(web):
    """Return all exchanges that can be done in web, ascending, each with its least person first."""
    many = web[0]
    deeds = [
        ("exchange", a, b, c, d)
        for a in range(many)
        for b, c, d in list(permutations(range(a + 1, many), 3))
    ]
    return tuple([deed for deed in deeds if _can_be_done(web, deed)])


def back(deed):
    """Return the deed that takes deed back."""
    if deed[0] == "exchange":
        _, a, b, c, d = deed
        return ("exchange", a, c, b, d)
    word, a, b = deed
    return ("strike" if word == "draw" else "draw", a, b)


def turned(some):
    """Return the deeds that take all of some back, the last one first."""
    return tuple([back(deed) for deed in some[::-1]])
