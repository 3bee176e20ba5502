"""What several test files use: webs and rows to try, values of all kinds, and a comparison in which True is not 1."""

import itertools
import random
import unittest

SQUARE = (4, ((0, 1), (0, 3), (1, 2), (2, 3)))
STAR = (4, ((0, 1), (0, 2), (0, 3)))
PAIR = (4, ((0, 1),))
PATH = (5, ((0, 1), (1, 2), (2, 3), (3, 4)))


def all_pairs(many):
    return [(a, b) for a in range(many) for b in range(a + 1, many)]


def all_webs(many):
    pairs = all_pairs(many)
    webs = []
    for chosen in itertools.product((False, True), repeat=len(pairs)):
        webs.append((many, tuple(itertools.compress(pairs, chosen))))
    return webs


def empty_web(many):
    return (many, ())


def full_web(many):
    return (many, tuple(all_pairs(many)))


def sample_webs(many, count):
    """Webs of so many people: the empty one, the full one, and count others, the same each time."""
    chance = random.Random(many)
    webs = [empty_web(many), full_web(many)]
    for number in range(count):
        share = (number + 1) / (count + 1)
        webs.append((many, tuple(pair for pair in all_pairs(many) if chance.random() < share)))
    return webs


def webs_to_try():
    """All webs of 2 to 4 people, and some of each number of people from 5 to 10."""
    webs = [web for many in range(2, 5) for web in all_webs(many)]
    return webs + [web for many in range(5, 11) for web in sample_webs(many, 12)]


def orders_to_try(many):
    """All orders of up to four people; some of more."""
    if many <= 4:
        return list(itertools.permutations(range(many)))
    chance = random.Random(100 + many)
    orders = [tuple(range(many)), tuple(reversed(range(many)))]
    orders.append(tuple(range(1, many)) + (0,))
    return orders + [tuple(chance.sample(range(many), many)) for _ in range(3)]


def all_rows(many):
    return list(itertools.product(range(many), repeat=many))


def sample_rows(many, count):
    """Rows of so many numbers, the same each time: of any numbers, and close to those of webs."""
    chance = random.Random(200 + many)
    rows = [(number,) * many for number in range(many)]
    rows += [tuple(chance.randrange(many) for _ in range(many)) for _ in range(count)]
    for web in sample_webs(many, count):
        row = list(told_numbers(web))
        rows.append(tuple(row))
        for _ in range(2):
            person = chance.randrange(many)
            row[person] = max(0, min(many - 1, row[person] + chance.choice((-1, 1))))
            rows.append(tuple(row))
    return rows


def rows_to_try():
    """All rows of 2 to 4 numbers, and some of each size from 5 to 10."""
    rows = [row for many in range(2, 5) for row in all_rows(many)]
    return rows + [row for many in range(5, 11) for row in sample_rows(many, 60)]


def told_numbers(web):
    """The numbers of a web, counted line by line and not by the package."""
    row = [0] * web[0]
    for a, b in web[1]:
        row[a] += 1
        row[b] += 1
    return tuple(row)


def is_web(value):
    """Whether value is a web, by the words of the document."""
    many, lines = value
    pairs = [repr(pair) for pair in all_pairs(many)]
    names = [repr(line) for line in lines]
    return type(value) is tuple and type(lines) is tuple and names == [pair for pair in pairs if pair in names]


def values_of_all_kinds():
    """Values that are no strings and no tuples of much sense, made anew at each call."""
    return [
        None, True, False, 0, 1, -1, 4, 10 ** 399, -(10 ** 399), b"", b"4: none", (), (None,), (True,), (0, 1),
        (0, (1,)), ((), ()), ((0,), [1]), [], [0, 1], [(0,), (1,)], {}, {"a": [1]}, {0: 1}, {(0, 1): ()},
        nested(20), tuple(range(4000)), STAR, list(PAIR),
    ]


def strings_of_all_kinds():
    return [
        "", " ", "a", "0", "4", "none", "None", "odd", "odd ", "Odd", "draw", "two\nlines", "\n", "()", "(4, ())",
        "x" * 20000, "0" * 20000, "9" * 20000, " " * 20000, "\n" * 20000, ": " * 10000,
    ]


def nested(depth):
    value = 7
    for step in range(depth):
        value = (value,) if step % 2 else [value]
    return value


class Case(unittest.TestCase):

    def assertSame(self, got, wanted, about=None):
        """Equal, and of equal kinds throughout: 1 is not True, a list is no tuple."""
        self.assertEqual(got, wanted, about)
        self.assertEqual(repr(got), repr(wanted), about)
