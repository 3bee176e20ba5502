"""Webs: pairs (many, lines) of how many people there are and of the lines between them."""

from itertools import combinations

from oddlines.bounds import MAX_PEOPLE
from oddlines.errors import TooMany
from oddlines.kinds import is_int_between, is_pair


def _is_line(many, value):
    if not is_pair(value):
        return False
    low, high = value
    return is_int_between(high, 0, many - 1) and is_int_between(low, 0, high - 1)


def web_error(value):
    """Return None if value is a web, otherwise the first thing that is wrong with it."""
    if not is_pair(value) or not isinstance(value[1], tuple):
        return "form"
    many, lines = value
    if not is_int_between(many, 2, MAX_PEOPLE):
        return "many"
    for place, line in enumerate(lines):
        if not _is_line(many, line):
            return ("line", place)
    # Only now, as items that are no lines could not be compared.
    for place in range(1, len(lines)):
        if lines[place] <= lines[place - 1]:
            return ("order", place)
    return None


def numbers(web):
    """Return how many lines each person has, in order."""
    many, lines = web
    return tuple([len([line for line in lines if person in line]) for person in range(many)])


def line_between(a, b):
    """Return the line between a and b as it stands in a web: the lesser one first."""
    return (a, b) if a < b else (b, a)


def has_line(web, a, b):
    """Return whether there is a line between a and b, either way round."""
    return line_between(a, b) in web[1]


def contrary(web):
    """Return the web of the same people that has just the lines that web has not."""
    many, lines = web
    pairs = list(combinations(range(many), 2))
    return (many, tuple([pair for pair in pairs if pair not in lines]))


def renamed(web, order):
    """Return the web in which the person i is who order[i] is in web."""
    many = web[0]
    pairs = list(combinations(range(many), 2))
    return (many, tuple([(i, j) for i, j in pairs if has_line(web, order[i], order[j])]))


def one_more(web, is_tied):
    """Return web with a person more, behind all others, who is tied to all of them or to nobody."""
    many, lines = web
    if many == MAX_PEOPLE:
        raise TooMany(MAX_PEOPLE)
    if not is_tied:
        return (many + 1, lines)
    ties = [(person, many) for person in range(many)]
    return (many + 1, tuple(sorted([*lines, *ties])))
