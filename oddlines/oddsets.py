"""Odd sets: the numbers of lines that an odd number of people have."""

from oddlines.errors import Unfit
from oddlines.kinds import is_ascending, is_int_between
from oddlines.rows import web_with
from oddlines.webs import numbers


def odd_set(web):
    """Return the odd set of web."""
    told = numbers(web)
    return tuple([number for number in range(web[0]) if told.count(number) % 2 == 1])


def set_error(many, value):
    """Return None if value is an odd set of many people, otherwise the first thing that is wrong."""
    if not is_ascending(value, 0, many - 1):
        return "form"
    if (len(value) + many) % 2 == 1:
        return "parity"
    if sum(value) % 2 == 1:
        return "sum"
    if 0 in value and many - 1 in value:
        return "ends"
    return None


def set_count(many):
    """Return how many odd sets of many people there are."""
    if many < 4:
        return many - 1
    return 3 << (many - 4)


def _lots(size, odd):
    """Return how many lots of size things there are with an even number of them, or, if odd is 1, an odd one."""
    return 1 << (size - 1) if size > 0 else 1 - odd


def _beginning(many, head):
    """Return how many odd sets of many people begin with head: ascending, not (), not both ends in it."""
    last = head[-1]
    top = many - 2 if head[0] == 0 else many - 1
    odd_ones = (top + 1) // 2 - (last + 1) // 2
    even_ones = top - last - odd_ones
    # The sum tells whether the odd numbers still to come are odd in number; then the size tells it of the even ones.
    odd = sum(head) % 2
    return _lots(odd_ones, odd) * _lots(even_ones, (many + len(head) + odd) % 2)


def _is_set(many, chosen):
    return set_error(many, chosen) is None


def set_at(many, number):
    """Return the odd set of many people ahead of which just number others stand."""
    if not is_int_between(number, 0, set_count(many) - 1):
        raise Unfit()
    chosen = ()
    # How many of those that begin with chosen stand ahead of the one asked for.
    left = number
    while left > 0 or not _is_set(many, chosen):
        if _is_set(many, chosen):
            left -= 1
        item = chosen[-1] + 1 if chosen else 0
        begun = _beginning(many, (*chosen, item))
        while left >= begun:
            left -= begun
            item += 1
            begun = _beginning(many, (*chosen, item))
        chosen = (*chosen, item)
    return chosen


def number_of_set(many, chosen):
    """Return how many odd sets of many people stand ahead of chosen."""
    if not _is_set(many, chosen):
        raise Unfit()
    ahead = 0
    least = 0
    for place, item in enumerate(chosen):
        head = chosen[:place]
        if _is_set(many, head):
            ahead += 1
        ahead += sum([_beginning(many, (*head, other)) for other in range(least, item)])
        least = item + 1
    return ahead


def web_for(many, chosen):
    """Return a web of many people whose odd set is chosen."""
    if not _is_set(many, chosen):
        raise Unfit()
    # Those who are not needed for chosen stand in pairs, and all pairs can be led to one number ([B4]).
    others = many - len(chosen)
    webs = [web_with(chosen + (number,) * others) for number in range(many)]
    return [web for web in webs if web is not None][0]
