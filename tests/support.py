"""What several test files use: webs to try, and a comparison in which True is not 1."""

import itertools
import random
import unittest

SQUARE = (4, ((0, 1), (0, 3), (1, 2), (2, 3)))
STAR = (4, ((0, 1), (0, 2), (0, 3)))
PAIR = (4, ((0, 1),))
PATH = (5, ((0, 1), (1, 2), (2, 3), (3, 4)))


def all_pairs(many):
    return [(a, b) for a in range(many) for b in range(a + 1, many)]


def all_webs(many):
    pairs = all_pairs(many)
    webs = []
    for chosen in itertools.product((False, True), repeat=len(pairs)):
        webs.append((many, tuple(itertools.compress(pairs, chosen))))
    return webs


def empty_web(many):
    return (many, ())


def full_web(many):
    return (many, tuple(all_pairs(many)))


def sample_webs(many, count):
    """Webs of so many people: the empty one, the full one, and count others, the same each time."""
    chance = random.Random(many)
    webs = [empty_web(many), full_web(many)]
    for number in range(count):
        share = (number + 1) / (count + 1)
        webs.append((many, tuple(pair for pair in all_pairs(many) if chance.random() < share)))
    return webs


def webs_to_try():
    """All webs of 2 to 4 people, and some of each number of people from 5 to 10."""
    webs = [web for many in range(2, 5) for web in all_webs(many)]
    return webs + [web for many in range(5, 11) for web in sample_webs(many, 12)]


def orders_to_try(many):
    """All orders of up to four people; some of more."""
    if many <= 4:
        return list(itertools.permutations(range(many)))
    chance = random.Random(100 + many)
    orders = [tuple(range(many)), tuple(reversed(range(many)))]
    orders.append(tuple(range(1, many)) + (0,))
    return orders + [tuple(chance.sample(range(many), many)) for _ in range(3)]


def nested(depth):
    value = 7
    for step in range(depth):
        value = (value,) if step % 2 else [value]
    return value


class Case(unittest.TestCase):

    def assertSame(self, got, wanted):
        """Equal, and of equal kinds throughout: 1 is not True, a list is no tuple."""
        self.assertEqual(got, wanted)
        self.assertEqual(repr(got), repr(wanted))
