"""Rows of numbers: which of them are the numbers of a web, and their levels."""

from oddlines.kinds import is_int_between
from oddlines.webs import line_between


def row_error(many, value):
    """Return None if value is a row of many numbers, otherwise the first thing that is wrong."""
    if not isinstance(value, tuple) or len(value) != many:
        return "form"
    for place, number in enumerate(value):
        if not is_int_between(number, 0, many - 1):
            return ("number", place)
    return None


def greatest(wanted, person, others):
    """Return as many of others as person wants lines, those who want most; None if too few want any."""
    ranks = sorted([(-wanted[other], other) for other in others if wanted[other] > 0])
    if len(ranks) < wanted[person]:
        return None
    return [other for _, other in ranks[:wanted[person]]]


def laid_off(wanted, person, ties):
    """Return what is still wanted when person is tied to all of ties, and wants no more."""
    left = [number - 1 if other in ties else number for other, number in enumerate(wanted)]
    left[person] = 0
    return left


def lines_with(wanted):
    """Return lines with which each person has as many as wanted, in any order; None if there are none."""
    left = list(wanted)
    lines = []
    for _ in wanted:
        # This fails only if the numbers are no web's: see [B5] and [D5] of the document.
        person = left.index(max(left))
        ties = greatest(left, person, [other for other in range(len(left)) if other != person])
        if ties is None:
            return None
        left = laid_off(left, person, ties)
        lines = lines + [line_between(person, other) for other in ties]
    return lines


def web_with(row):
    """Return a web whose numbers are row, None if there is none."""
    lines = lines_with(row)
    if lines is None:
        return None
    return (len(row), tuple(sorted(lines)))


def is_webs(row):
    """Return whether there is a web whose numbers are row."""
    return lines_with(row) is not None


def row_held(row, held):
    """Return a row of the numbers of row in which each person in held, a dict, has the number that stands there."""
    left = list(row)
    for person in held:
        left.remove(held[person])
    told = dict(held)
    for person in range(len(row)):
        if person not in told:
            told[person] = left.pop()
    return tuple([told[person] for person in range(len(row))])


def level_of(row):
    """Return the level of row."""
    ranks = sorted(row, reverse=True)
    return max([place for place, number in enumerate(ranks) if number >= place])
