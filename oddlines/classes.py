"""Classes of webs: odd sets, and who holds the locked numbers of them."""

from math import perm

from oddlines.bounds import MAX_SPREAD
from oddlines.errors import TooMany, Unfit
from oddlines.kinds import is_int_between
from oddlines.locks import locked
from oddlines.oddsets import odd_set, set_at, set_count, web_for
from oddlines.rows import row_held, web_with
from oddlines.webs import numbers


def holders(web):
    """Return the pairs of each locked number of web's odd set and its holder, ascending."""
    told = numbers(web)
    return tuple([(number, told.index(number)) for number in locked(web[0], odd_set(web))])


def class_of(web):
    """Return how many people web has, its odd set, and the holders of the locked numbers, in the order of these."""
    return (web[0], odd_set(web), tuple([person for _, person in holders(web)]))


def classes_of(many, chosen):
    """Return how many classes of webs of many people there are whose odd set is chosen."""
    # Whoever is to hold which locked number: there is such a web.
    return perm(many, len(locked(many, chosen)))


def class_count(many):
    """Return how many classes of webs of many people there are."""
    if many > MAX_SPREAD:
        raise TooMany(MAX_SPREAD)
    return sum([classes_of(many, set_at(many, number)) for number in range(set_count(many))])


def _is_unlike_people(many, size, value):
    """Tell whether value is a tuple of so many unlike people."""
    if not isinstance(value, tuple) or len(value) != size:
        return False
    return all([is_int_between(item, 0, many - 1) for item in value]) and len(set(value)) == size


def class_web(many, chosen, people):
    """Return a web of which class_of tells many, chosen and people."""
    locks = locked(many, chosen)
    if not _is_unlike_people(many, len(locks), people):
        raise Unfit()
    held = dict(zip(people, locks))
    return web_with(row_held(numbers(web_for(many, chosen)), held))
