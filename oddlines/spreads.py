"""Spreads: the rows of all webs of one odd set; and which numbers a person may come to have."""

from oddlines.bounds import MAX_SPREAD
from oddlines.classes import holders
from oddlines.errors import TooMany, Unfit
from oddlines.joining import way
from oddlines.kinds import is_int_between
from oddlines.locks import trial_of_web
from oddlines.oddsets import odd_set
from oddlines.rows import is_webs, row_held, web_with
from oddlines.webs import numbers


def _all_pairs(many, count):
    """Return all tuples of the numbers of so many pairs, one for each pair, none less than the one ahead."""
    lots = [()]
    for _ in range(count):
        lots = [(*lot, number) for lot in lots for number in range(lot[-1] if lot else 0, many)]
    return lots


def spreads(many, chosen):
    """Return the rows, greatest numbers first, of all webs of many people with the odd set chosen, ascending."""
    if many > MAX_SPREAD:
        raise TooMany(MAX_SPREAD)
    lots = _all_pairs(many, (many - len(chosen)) // 2)
    rows = [tuple(sorted([*chosen, *lot, *lot], reverse=True)) for lot in lots]
    return tuple(sorted([row for row in rows if is_webs(row)]))


def fewest(many, chosen):
    """Return the least number of lines of a web with the odd set chosen, and such a web."""
    row = min(spreads(many, chosen), key=sum)
    return (sum(row) // 2, web_with(row))


def most(many, chosen):
    """Return the greatest number of lines of a web with the odd set chosen, and such a web."""
    row = max(spreads(many, chosen), key=sum)
    return (sum(row) // 2, web_with(row))


def may_have(web, person):
    """Return all numbers that person has in webs that are joined to web, ascending."""
    held = [number for number, holder in holders(web) if holder == person]
    if held:
        return tuple(held)
    many = web[0]
    chosen = odd_set(web)
    return tuple([number for number in range(many) if trial_of_web(many, chosen, number) is not None])


def way_to(web, person, number):
    """Return deeds that can be done from web on, and behind which person has number."""
    # The kind first, as True is 1 for Python.
    if not is_int_between(number, 0, web[0] - 1) or number not in may_have(web, person):
        raise Unfit()
    if numbers(web)[person] == number:
        return ()
    held = {holder: locked for locked, holder in holders(web)}
    held[person] = number
    row = trial_of_web(web[0], odd_set(web), number)
    return way(web, web_with(row_held(row, held)))
