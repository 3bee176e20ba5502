"""Steps between rows: each of them leaves the row of a web, and there are not too many of them."""

import unittest

from oddlines.locks import trial_of_web
from oddlines.rows import level_of
from oddlines.steps import Walk, steps_between
from pairs import joined_pairs
from support import Case, all_odd_sets, told_is_webs, told_locked, told_numbers, told_odd_set, told_spreads


class Steps(Case):

    def stepped(self, row, steps):
        """The row behind steps, each of which is judged."""
        row = list(row)
        for a, b, by in steps:
            self.assertEqual(row[a], row[b])
            self.assertIn(by, (1, -1))
            row[a] += by
            row[b] += by
            self.assertTrue(told_is_webs(row), (row, steps))
        return tuple(row)

    def test_between_all_spreads_of_few_people(self):
        for many in range(2, 7):
            for chosen, rows in told_spreads(many).items():
                locks = told_locked(many, chosen)
                for row in rows:
                    for other in rows:
                        # The people who hold what is locked have to be the same.
                        if all(row.index(number) == other.index(number) for number in locks):
                            steps = steps_between(row, other, chosen)
                            self.assertSame(self.stepped(row, steps), other)

    def test_between_rows_of_two_people_to_ten(self):
        for many in range(2, 11):
            for one, other in joined_pairs(many, 1):
                row, wanted = told_numbers(one), told_numbers(other)
                steps = steps_between(row, wanted, told_odd_set(one))
                self.assertSame(self.stepped(row, steps), wanted)

    def test_none_between_equal_rows(self):
        for many in range(2, 8):
            for chosen, rows in told_spreads(many).items():
                for row in rows:
                    self.assertSame(steps_between(row, row, chosen), [])
                    self.assertSame(steps_between(row[::-1], row[::-1], chosen), [])

    def test_all_spreads_settle(self):
        for many in range(2, 10):
            for chosen, rows in told_spreads(many).items():
                for row in rows[::3]:
                    walk = Walk(row)
                    walk.settle({})
                    level = level_of(row)
                    settled = self.stepped(row, walk.steps)
                    self.assertSame(sorted(settled), sorted(chosen + (level,) * (many - len(chosen))))

    def test_from_level_to_level_and_to_each_holder(self):
        for many in range(2, 11):
            for chosen in all_odd_sets(many):
                first = {number: place for place, number in enumerate(chosen)}
                rows = [chosen + (c,) * (many - len(chosen)) for c in range(many)]
                levels = [row[-1] for row in rows if told_is_webs(row)]
                for level in levels:
                    for number in [number for number in chosen if number not in told_locked(many, chosen)]:
                        walk, held = Walk(rows[level]), dict(first)
                        walk.shift(held, level_of(trial_of_web(many, chosen, number)))
                        walk.change(held, number, many - 1)
                        row = self.stepped(rows[level], walk.steps)
                        self.assertSame((row[many - 1], held[number]), (number, many - 1))
                    for other in levels:
                        walk = Walk(rows[level])
                        walk.shift(dict(first), other)
                        self.assertSame(self.stepped(rows[level], walk.steps), rows[other])


if __name__ == "__main__":
    unittest.main()
