"""Ways: rows of deeds from one web to another; papers that show either a way or a mark."""

from itertools import permutations

from oddlines.bounds import MAX_DEEDS
from oddlines.deeds import back, deed_error, done, led
from oddlines.errors import Apart
from oddlines.exchanging import by_exchanges, without_line
from oddlines.kinds import is_int_between, is_pair
from oddlines.marks import mark, marks
from oddlines.oddsets import odd_set
from oddlines.steps import steps_between
from oddlines.webs import contrary, has_line, numbers


def _room(web, a, b):
    """Return exchanges behind which there is no line between a and b, who may draw it then."""
    if not has_line(web, a, b):
        return ()
    # One exchange nearly always does.
    for c, d in list(permutations(range(web[0]), 2)):
        deed = ("exchange", a, b, c, d)
        if deed_error(web, deed) is None:
            return (deed,)
    return by_exchanges(web, without_line(numbers(web), a, b))


def _deeds_of_step(web, a, b, by):
    """Return deeds that make the numbers of a and b greater by 1, or less if by is -1, and keep all others."""
    if by == 1:
        return (*_room(web, a, b), ("draw", a, b))
    # In the contrary web the line is to be drawn, and back tells what each deed there is in web ([C6]).
    return tuple([back(deed) for deed in _deeds_of_step(contrary(web), a, b, 1)])


def _joined_way(one, other):
    """Return deeds that lead from one to other, which have no mark."""
    here = one
    some = []
    for a, b, by in steps_between(numbers(one), numbers(other), odd_set(one)):
        deeds = _deeds_of_step(here, a, b, by)
        here = led(here, deeds)
        some.extend(deeds)
    return (*some, *by_exchanges(here, other))


def way(one, other):
    """Return deeds that lead from one to other."""
    found = mark(one, other)
    if found is not None:
        raise Apart(found)
    return _joined_way(one, other)


def paper(one, other):
    """Return a paper that shows whether one and other are joined: a way or a mark."""
    found = mark(one, other)
    if found is not None:
        return ("mark", found)
    return ("way", _joined_way(one, other))


def _way_error(one, other, value):
    """Return None if value is a tuple of deeds that lead from one to other, otherwise the first thing wrong with it."""
    if not isinstance(value, tuple) or len(value) > MAX_DEEDS:
        return "form"
    here = one
    for place, deed in enumerate(value):
        if deed_error(here, deed) is not None:
            return ("deed", place)
        here = done(here, deed)
    return None if here == other else "end"


def _is_mark(one, other, value):
    """Tell whether value is a mark of one and other."""
    # The kind first, as True is 1 for Python.
    if is_pair(value) and not is_int_between(value[1], 0, one[0] - 1):
        return False
    return value in marks(one, other)


def paper_error(one, other, value):
    """Return None if value is a paper as paper returns them, otherwise the first thing that is wrong with it."""
    if not is_pair(value):
        return "form"
    word, told = value
    if word == "way":
        return _way_error(one, other, told)
    if word == "mark":
        return None if _is_mark(one, other, told) else "mark"
    return "form"
