"""What several test files use: webs and rows to try, values of all kinds, and a comparison in which True is not 1."""

import functools
import itertools
import random
import unittest

from oddlines.errors import Unfit

SQUARE = (4, ((0, 1), (0, 3), (1, 2), (2, 3)))
STAR = (4, ((0, 1), (0, 2), (0, 3)))
PAIR = (4, ((0, 1),))
PATH = (5, ((0, 1), (1, 2), (2, 3), (3, 4)))
EMPTY = (4, ())
OTHER_STAR = (4, ((0, 1), (1, 2), (1, 3)))


def all_pairs(many):
    return [(a, b) for a in range(many) for b in range(a + 1, many)]


def all_webs(many):
    pairs = all_pairs(many)
    webs = []
    for chosen in itertools.product((False, True), repeat=len(pairs)):
        webs.append((many, tuple(itertools.compress(pairs, chosen))))
    return webs


def empty_web(many):
    return (many, ())


def full_web(many):
    return (many, tuple(all_pairs(many)))


def sample_webs(many, count):
    """Webs of so many people: the empty one, the full one, and count others, the same each time."""
    chance = random.Random(many)
    webs = [empty_web(many), full_web(many)]
    for number in range(count):
        share = (number + 1) / (count + 1)
        webs.append((many, tuple(pair for pair in all_pairs(many) if chance.random() < share)))
    return webs


def webs_to_try():
    """All webs of 2 to 4 people, and some of each number of people from 5 to 10."""
    webs = [web for many in range(2, 5) for web in all_webs(many)]
    return webs + [web for many in range(5, 11) for web in sample_webs(many, 12)]


def orders_to_try(many):
    """All orders of up to four people; some of more."""
    if many <= 4:
        return list(itertools.permutations(range(many)))
    chance = random.Random(100 + many)
    orders = [tuple(range(many)), tuple(reversed(range(many)))]
    orders.append(tuple(range(1, many)) + (0,))
    return orders + [tuple(chance.sample(range(many), many)) for _ in range(3)]


def all_rows(many):
    return list(itertools.product(range(many), repeat=many))


def sample_rows(many, count):
    """Rows of so many numbers, the same each time: of any numbers, and close to those of webs."""
    chance = random.Random(200 + many)
    rows = [(number,) * many for number in range(many)]
    rows += [tuple(chance.randrange(many) for _ in range(many)) for _ in range(count)]
    for web in sample_webs(many, count):
        row = list(told_numbers(web))
        rows.append(tuple(row))
        for _ in range(2):
            person = chance.randrange(many)
            row[person] = max(0, min(many - 1, row[person] + chance.choice((-1, 1))))
            rows.append(tuple(row))
    return rows


def rows_to_try():
    """All rows of 2 to 4 numbers, and some of each size from 5 to 10."""
    rows = [row for many in range(2, 5) for row in all_rows(many)]
    return rows + [row for many in range(5, 11) for row in sample_rows(many, 60)]


def told_numbers(web):
    """The numbers of a web, counted line by line and not by the package."""
    row = [0] * web[0]
    for a, b in web[1]:
        row[a] += 1
        row[b] += 1
    return tuple(row)


def told_odd_set(web):
    """The odd set of a web, counted line by line and not by the package."""
    row = told_numbers(web)
    return tuple(number for number in range(web[0]) if row.count(number) % 2)


def is_odd_set(many, chosen):
    """The four points of [E1], of a tuple of integers."""
    items = list(chosen)
    return (
        items == sorted(set(items)) and all(0 <= item < many for item in items)
        and (len(items) - many) % 2 == 0 and sum(items) % 2 == 0 and not {0, many - 1} <= set(items)
    )


def all_odd_sets(many):
    sizes = range(many + 1)
    chosen = [some for size in sizes for some in itertools.combinations(range(many), size)]
    return sorted(some for some in chosen if is_odd_set(many, some))


def all_deeds(many):
    """All tuples that have the form of a deed of so many people, ascending."""
    deeds = [(word, a, b) for word in ("draw", "strike") for a, b in all_pairs(many)]
    return sorted(deeds + [("exchange", *four) for four in itertools.permutations(range(many), 4)])


def told_can(web, deed):
    """Whether deed, of the right form, can be done in web, by the words of [C1]."""
    word, people = deed[0], deed[1:]
    lines = [frozenset(line) for line in web[1]]
    if word == "exchange":
        a, b, c, d = people
        there = [frozenset(two) in lines for two in ((a, b), (c, d), (a, c), (b, d))]
        return there == [True, True, False, False]
    row = told_numbers(web)
    return row[people[0]] == row[people[1]] and (frozenset(people) in lines) == (word == "strike")


def told_done(web, deed):
    """The web behind deed, which can be done, by the words of [C1]."""
    word, people = deed[0], deed[1:]
    lines = set(web[1])
    if word == "draw":
        lines.add(people)
    elif word == "strike":
        lines.remove(people)
    else:
        a, b, c, d = people
        for x, y in ((a, b), (c, d)):
            lines.remove((min(x, y), max(x, y)))
        for x, y in ((a, c), (b, d)):
            lines.add((min(x, y), max(x, y)))
    return (web[0], tuple(sorted(lines)))


def is_lot(many, value):
    if type(value) is not tuple:
        return False
    right = [repr(person) for person in range(many)]
    names = [repr(item) for item in value]
    return names == [name for name in right if name in names]


def told_bar_error(row, value):
    """What [B3] tells of a bar; people are compared by repr, so True is not 1."""
    many = len(row)
    if repr(value) == repr("odd"):
        return None if sum(row) % 2 else "even"
    if type(value) is not tuple or len(value) != 2 or not (is_lot(many, value[0]) and is_lot(many, value[1])):
        return "form"
    high, low = value
    if [person for person in high if person in low]:
        return "form"
    asked = sum(row[person] for person in high) - sum(row[person] for person in low)
    return None if asked > len(high) * (many - 1 - len(low)) else "little"


def told_is_webs(row):
    """Whether a row is a web's, by the bounds of Erdos and Gallai."""
    ranks = sorted(row, reverse=True)
    if sum(ranks) % 2:
        return False
    sizes = range(1, len(ranks) + 1)
    return all(sum(ranks[:k]) <= k * (k - 1) + sum(min(d, k) for d in ranks[k:]) for k in sizes)


@functools.cache
def told_spreads(many):
    """The rows of all webs of so many people, their numbers descending, by their odd sets."""
    found = {}
    for row in itertools.combinations_with_replacement(range(many - 1, -1, -1), many):
        if told_is_webs(row):
            chosen = tuple(number for number in range(many) if row.count(number) % 2)
            found.setdefault(chosen, []).append(row)
    return found


@functools.cache
def told_locked(many, chosen):
    """The locked numbers of an odd set, by the rows of all webs."""
    rows = told_spreads(many)[chosen]
    return tuple(number for number in chosen if all(row.count(number) < 3 for row in rows))


def told_class(web):
    """What class_of is to tell, by the rows of all webs."""
    row, chosen = told_numbers(web), told_odd_set(web)
    return (web[0], chosen, tuple(row.index(number) for number in told_locked(web[0], chosen)))


def run_from(web, count, seed):
    """A tuple of at most count deeds that can be done from web on, and the webs on the way, web first."""
    chance = random.Random(seed)
    some, webs = [], [web]
    for _ in range(count):
        word = chance.choice(("draw", "strike", "exchange", "exchange"))
        deeds = [deed for deed in all_deeds(web[0]) if deed[0] == word and told_can(webs[-1], deed)]
        if deeds:
            some.append(chance.choice(deeds))
            webs.append(told_done(webs[-1], some[-1]))
    return tuple(some), webs


def is_web(value):
    """Whether value is a web, by the words of the document."""
    many, lines = value
    pairs = [repr(pair) for pair in all_pairs(many)]
    names = [repr(line) for line in lines]
    return type(value) is tuple and type(lines) is tuple and names == [pair for pair in pairs if pair in names]


def values_of_all_kinds():
    """Values that are no strings and no tuples of much sense, made anew at each call."""
    return [
        None, True, False, 0, 1, -1, 4, 10 ** 399, -(10 ** 399), b"", b"4: none", (), (None,), (True,), (0, 1),
        (0, (1,)), ((), ()), ((0,), [1]), [], [0, 1], [(0,), (1,)], {}, {"a": [1]}, {0: 1}, {(0, 1): ()},
        nested(20), tuple(range(4000)), STAR, list(PAIR),
    ]


def strings_of_all_kinds():
    return [
        "", " ", "a", "0", "4", "none", "None", "odd", "odd ", "Odd", "draw", "two\nlines", "\n", "()", "(4, ())",
        "x" * 20000, "0" * 20000, "9" * 20000, " " * 20000, "\n" * 20000, ": " * 10000,
    ]


def nested(depth):
    value = 7
    for step in range(depth):
        value = (value,) if step % 2 else [value]
    return value


class Case(unittest.TestCase):

    def assertSame(self, got, wanted, about=None):
        """Equal, and of equal kinds throughout: 1 is not True, a list is no tuple."""
        self.assertEqual(got, wanted, about)
        self.assertEqual(repr(got), repr(wanted), about)

    def assertUnfit(self, call, *args):
        with self.assertRaises(Unfit, msg=repr(args)[:80]) as caught:
            call(*args)
        self.assertIs(type(caught.exception), Unfit)
