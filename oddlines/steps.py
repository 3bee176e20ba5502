"""Steps from row to row: two people who have the same number both get one more, or one less."""

from oddlines.locks import trial_of_web
from oddlines.rows import level_of
from oddlines.webs import line_between


def _by_twos(people):
    """Return pairs of people, in order; the last one is left over if they are odd in number."""
    return list(zip(people[::2], people[1::2]))


class Walk:
    """A row that is led on step by step, and the steps that it took: triples of two people and 1 or -1."""

    def __init__(self, row):
        self.row = list(row)
        self.steps = []

    def step(self, a, b, by):
        """Make the numbers of a and b, who have the same one, greater by 1, or less if by is -1."""
        self.row[a] += by
        self.row[b] += by
        self.steps.append((*line_between(a, b), by))

    def lead(self, a, b, number):
        """Lead a and b, who have the same number, straight to another one."""
        by = 1 if self.row[a] < number else -1
        while self.row[a] != number:
            self.step(a, b, by)

    def people_at(self, number, wished):
        """Return who has number; whoever is wished there stands behind all others."""
        people = [person for person, other in enumerate(self.row) if other == number]
        return sorted(people, key=lambda person: person == wished.get(number))

    def settle(self, wished):
        """Lead all pairs to the level of the row, so that those who are wished stay behind where they can."""
        level = level_of(self.row)
        for number in range(len(self.row)):
            if number != level:
                for a, b in _by_twos(self.people_at(number, wished)):
                    self.lead(a, b, level)

    def held(self, chosen, wished):
        """Return who holds each number of chosen, if all pairs have one number."""
        return {number: self.people_at(number, wished)[-1] for number in chosen}

    def paired(self, held):
        """Return all who hold nothing."""
        taken = list(held.values())
        return [person for person in range(len(self.row)) if person not in taken]

    def shift(self, held, level):
        """Lead all who hold nothing, and have one number, to another one."""
        people = self.paired(held)
        while self.row[people[0]] != level:
            by = 1 if self.row[people[0]] < level else -1
            # All of them take each step before the next one: only so each row is a web's.
            for a, b in _by_twos(people):
                self.step(a, b, by)

    def change(self, held, number, person):
        """Make person, who holds nothing, the holder of number."""
        level = self.row[person]
        third = [other for other in self.paired(held) if other != person][0]
        self.lead(person, third, number)
        self.lead(held[number], third, level)
        held[number] = person


def _next_change(held, wished, paired):
    """Return a number and whoever is to hold it next, None if all is as wished."""
    wrong = [number for number in held if held[number] != wished[number]]
    for number in wrong:
        if wished[number] in paired:
            return (number, wished[number])
    # All who are wished hold something else: so the first of them has to be freed.
    return (wrong[0], paired[0]) if wrong else None


def _change_all(walk, held, wished):
    """Let everybody hold what is wished."""
    many = len(walk.row)
    asked = _next_change(held, wished, walk.paired(held))
    while asked is not None:
        number, person = asked
        # At this level two can go straight to number and come back ([B4] of the document).
        walk.shift(held, level_of(trial_of_web(many, tuple(held), number)))
        walk.change(held, number, person)
        asked = _next_change(held, wished, walk.paired(held))


def _shortened(steps):
    """Return steps without those that are taken back at once."""
    kept = []
    for a, b, by in steps:
        if kept and kept[-1] == (a, b, -by):
            kept.pop()
        else:
            kept.append((a, b, by))
    return kept


def steps_between(row, other, chosen):
    """Return steps from row to other, both of webs with the odd set chosen in which the same hold what is locked."""
    there = Walk(other)
    first = {number: row.index(number) for number in chosen}
    there.settle(first)
    wished = there.held(chosen, first)
    here = Walk(row)
    here.settle(wished)
    held = here.held(chosen, wished)
    _change_all(here, held, wished)
    here.shift(held, there.row[there.paired(wished)[0]])
    return _shortened(here.steps + [(a, b, -by) for a, b, by in there.steps[::-1]])
