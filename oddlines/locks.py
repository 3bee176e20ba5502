"""Locked numbers: those of an odd set that no web with this odd set has three times, and papers for both."""

from oddlines.bars import bar, bar_error
from oddlines.errors import Unfit
from oddlines.kinds import is_int_between, is_pair
from oddlines.oddsets import odd_set
from oddlines.rows import is_webs, web_with
from oddlines.webs import numbers, web_error


def trial_row(many, chosen, number, c):
    """Return the row of the numbers of chosen, of number twice, and of c for all others."""
    others = many - 2 - len(chosen)
    return chosen + (number, number) + (c,) * others


def _trial_rows(many, chosen, number):
    """Return the trial rows of number in the order of c; only one where c does not matter."""
    count = 1 if len(chosen) == many - 2 else many
    return [trial_row(many, chosen, number, c) for c in range(count)]


def trial_of_web(many, chosen, number):
    """Return the first trial row of number that is a web's, None if none is."""
    for row in _trial_rows(many, chosen, number):
        if is_webs(row):
            return row
    return None


def locked(many, chosen):
    """Return all locked numbers of chosen, ascending."""
    # No other webs need be looked at: that is what [G5] tells.
    return tuple([number for number in chosen if trial_of_web(many, chosen, number) is None])


def thrice(many, chosen, number):
    """Return a web with the odd set chosen in which three people at least have number."""
    # The kind first, as True is among integers for Python.
    if not is_int_between(number, 0, many - 1) or number not in chosen:
        raise Unfit()
    row = trial_of_web(many, chosen, number)
    if row is None:
        raise Unfit()
    return web_with(row)


def lock_paper(many, chosen, number):
    """Return a paper that shows whether number is locked."""
    row = trial_of_web(many, chosen, number)
    if row is not None:
        return ("thrice", web_with(row))
    return ("bars", tuple([bar(other) for other in _trial_rows(many, chosen, number)]))


def _thrice_error(many, chosen, number, value):
    """Return None if value is a web as thrice returns it, otherwise the first thing that is wrong with it."""
    if web_error(value) is not None or value[0] != many:
        return "web"
    if odd_set(value) != chosen:
        return "set"
    return "few" if numbers(value).count(number) < 3 else None


def _bars_error(rows, value):
    """Return None if value is a tuple of bars of rows, one of each, otherwise the first thing that is wrong."""
    if not isinstance(value, tuple) or len(value) != len(rows):
        return "form"
    for c, row in enumerate(rows):
        if bar_error(row, value[c]) is not None:
            return ("bar", c)
    return None


def lock_error(many, chosen, number, value):
    """Return None if value is a paper for number as lock_paper returns it, otherwise the first thing wrong with it."""
    if not is_pair(value):
        return "form"
    word, told = value
    if word == "thrice":
        return _thrice_error(many, chosen, number, told)
    if word == "bars":
        return _bars_error(_trial_rows(many, chosen, number), told)
    return "form"
