"""Pairs of webs to try, joined ones and others, and what deeds lead to."""

import functools
import itertools
import random

from oddlines.deeds import done, draws, exchanges, strikes
from oddlines.oddsets import web_for
from oddlines.rows import web_with
from oddlines.webs import renamed
from support import (
    all_odd_sets, all_webs, empty_web, full_web, orders_to_try, sample_webs, told_can, told_class, told_done,
    told_locked, told_odd_set, told_spreads,
)


def deeds_in(web):
    return draws(web) + strikes(web) + exchanges(web)


@functools.cache
def joined_lots(many):
    """All webs of so many people, in lots of those that deeds lead from one to another."""
    left, lots = dict.fromkeys(all_webs(many)), []
    while left:
        lot = [left.popitem()[0]]
        for web in lot:
            for deed in deeds_in(web):
                behind = done(web, deed)
                if behind in left:
                    del left[behind]
                    lot.append(behind)
        lots.append(lot)
    return lots


def told_marks(one, other):
    """All marks that [F1] tells, the least first, by the rows of all webs."""
    many, chosen, people = told_class(one)
    other_many, other_chosen, other_people = told_class(other)
    if many != other_many:
        return ["many"]
    odd = [("odd", number) for number in range(many) if (number in chosen) != (number in other_chosen)]
    if odd:
        return odd
    locks = told_locked(many, chosen)
    return [("holder", number) for number, a, b in zip(locks, people, other_people) if a != b]


def told_mark(one, other):
    return (told_marks(one, other) + [None])[0]


def wandered(web, count, seed):
    """A web that some deeds, as they come, lead to from web."""
    chance = random.Random(seed)
    for _ in range(count):
        deeds = chance.choice((draws, strikes, exchanges))(web)
        web = done(web, chance.choice(deeds)) if deeds else web
    return web


@functools.cache
def drawn_pairs():
    """Pairs of webs of two people to ten: drawn ones, of one odd set, and behind deeds of each other."""
    pairs = []
    for many in range(2, 11):
        webs = sample_webs(many, 12)
        pairs += list(itertools.product(webs, repeat=2))
        pairs += [(web, wandered(web, 12, seed)) for seed, web in enumerate(webs)]
        pairs += [(web, web_for(many, told_odd_set(web))) for web in webs]
        pairs += [(web, renamed(web, order)) for web in webs for order in orders_to_try(many)]
    return pairs


def drawn_web(many, chosen, people, chance):
    """A web with this odd set whose locked numbers these people hold; all else is drawn."""
    row = list(chance.choice(told_spreads(many)[chosen]))
    held = dict(zip(people, told_locked(many, chosen)))
    for number in held.values():
        row.remove(number)
    chance.shuffle(row)
    web = web_with(tuple(held[person] if person in held else row.pop() for person in range(many)))
    return wandered(web, 2, chance.random())


@functools.cache
def joined_pairs(many, count):
    """For each odd set so many pairs of webs with the same holders, the people and all else being drawn."""
    chance = random.Random(300 + many)
    pairs = []
    for chosen in all_odd_sets(many):
        for _ in range(count):
            people = chance.sample(range(many), len(told_locked(many, chosen)))
            one, other = [drawn_web(many, chosen, people, chance) for _ in range(2)]
            pairs.append((one, other))
    if many % 2 == 0:
        pairs += [(empty_web(many), full_web(many)), (full_web(many), empty_web(many))]
    return pairs


def led_by(case, web, some):
    """The web behind some, each deed being judged by the words of [C1] when its turn comes."""
    case.assertIs(type(some), tuple)
    case.assertLessEqual(len(some), 20000)
    for deed in some:
        case.assertIs(type(deed), tuple)
        word, *people = deed
        case.assertTrue(all(type(person) is int and 0 <= person < web[0] for person in people), deed)
        case.assertEqual(len(people), {"draw": 2, "strike": 2, "exchange": 4}[word], deed)
        case.assertEqual(len(set(people)), len(people), deed)
        case.assertTrue(word == "exchange" or people[0] < people[1], deed)
        case.assertTrue(told_can(web, deed), (web, deed))
        web = told_done(web, deed)
    return web
