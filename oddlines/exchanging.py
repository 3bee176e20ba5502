"""Webs with like numbers: exchanges between them, and which lines such webs can have or lack."""

from oddlines.deeds import done, turned
from oddlines.errors import Unfit
from oddlines.rows import greatest, laid_off, lines_with
from oddlines.webs import contrary, has_line, line_between, numbers


def _to_change(here, there, person):
    """Return pairs of later people: one whom person is tied to in here alone, and one in there alone."""
    later = list(range(person + 1, here[0]))
    old_ones = [a for a in later if has_line(here, person, a) and not has_line(there, person, a)]
    new_ones = [a for a in later if has_line(there, person, a) and not has_line(here, person, a)]
    return list(zip(old_ones, new_ones))


def _change_over(web, person, old, new):
    """Return an exchange among later people that ties person to new in the place of old, None if there is none."""
    for third in range(person + 1, web[0]):
        if third != old and has_line(web, third, new) and not has_line(web, third, old):
            return ("exchange", person, old, new, third)
    return None


def by_exchanges(one, other):
    """Return exchanges that lead from one to other."""
    if numbers(one) != numbers(other):
        raise Unfit()
    here = one
    there = other
    ahead = []
    behind = []
    for person in range(one[0]):
        for old, new in _to_change(here, there, person):
            # Of old and new either has at least as many lines: so in one of both webs there is such an exchange.
            deed = _change_over(here, person, old, new)
            if deed is not None:
                here = done(here, deed)
                ahead.append(deed)
            else:
                undone = _change_over(there, person, new, old)
                there = done(there, undone)
                behind.append(undone)
    return (*ahead, *turned(tuple(behind)))


def without_line(row, a, b):
    """Return a web whose numbers are row without a line between a and b, None if there is none."""
    ties = greatest(row, a, [other for other in range(len(row)) if other not in (a, b)])
    if ties is None:
        return None
    rest = lines_with(laid_off(row, a, ties))
    if rest is None:
        return None
    return (len(row), tuple(sorted([*rest, *[line_between(a, other) for other in ties]])))


def with_line(row, a, b):
    """Return a web whose numbers are row with a line between a and b, None if there is none."""
    other = without_line(tuple([len(row) - 1 - number for number in row]), a, b)
    return None if other is None else contrary(other)
