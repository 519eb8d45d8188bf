import random
import unittest

from helmsum.courses import looks_along
from helmsum.equations import nulls
from helmsum.grids import unit_grid
from helmsum.reach import reach_rows
from helmsum.systems import System
from helmsum.unseen import unseen_rows

from helping import (
    added_up, all_sorts, check_grid, dot, in_span, joined, nothing, reduced_by_fractions, row_of, some_grid, some_row,
    some_system, told, told_in,
)


class UnseenRows(unittest.TestCase):
    def check(self, system, steps):
        answer = told(self, unseen_rows, system, steps)
        wide = system.states
        check_grid(self, answer, len(answer), wide)
        self.assertEqual(answer, reduced_by_fractions(answer, wide))
        looks = joined(told_in(system, min(steps, wide)))
        for row in answer:
            self.assertEqual([dot(look, row) for look in looks], [0] * len(looks))
        self.assertEqual(len(answer), wide - len(reduced_by_fractions(looks, wide)))
        return answer

    def test_by_hand(self):
        system = System([row_of(1, 1, 0), row_of(0, 1, 0), row_of(0, 0, 5)], [], [row_of(2, 0, 0)])
        self.assertEqual(self.check(system, 0), unit_grid(3))
        self.assertEqual(self.check(system, 1), [row_of(0, 1, 0), row_of(0, 0, 1)])
        self.assertEqual(self.check(system, 2), [row_of(0, 0, 1)])
        self.assertEqual(self.check(system, 12), [row_of(0, 0, 1)])
        skew = System([row_of(1, 0), row_of(0, 1)], [], [row_of(3, 6)])
        self.assertEqual(self.check(skew, 4), [[(1, 1), (-1, 2)]])

    def test_each_count_of_steps(self):
        for system in all_sorts(1):
            lists = [self.check(system, steps) for steps in range(14)]
            self.assertEqual(lists[0], unit_grid(system.states))
            self.assertEqual(lists[system.states:], [lists[system.states]] * (14 - system.states))

    def test_the_looks_of_their_sums_are_all_nought_and_of_nothing_else(self):
        chance = random.Random(2)
        for system in all_sorts(3):
            for steps in [0, 1, 2, 5, 12]:
                rows = unseen_rows(system, steps)
                start = added_up(rows, some_row(chance, len(rows), 9), system.states)
                looks = looks_along(system, start, nothing(system, steps))[:steps]
                self.assertEqual(looks, [row_of(*[0] * system.outs)] * steps)
                start = some_row(chance, system.states, 9)
                looks = looks_along(system, start, nothing(system, steps))[:steps]
                blind = looks == [row_of(*[0] * system.outs)] * steps
                self.assertEqual(in_span(rows, system.states, start), blind)

    def test_the_span_against_the_reach_of_the_turned_system(self):
        for system in all_sorts(4):
            for steps in range(13):
                rows = unseen_rows(system, steps)
                reach = reach_rows(system.turned(), steps)
                self.assertEqual(len(rows) + len(reach), system.states)
                for row in rows:
                    self.assertEqual([dot(row, other) for other in reach], [0] * len(reach))
                self.assertEqual(rows, reduced_by_fractions(nulls(reach, system.states), system.states))

    def test_without_looks(self):
        system = System([row_of(1, 2), row_of(3, 4)], [row_of(1, 0)], [])
        for steps in range(13):
            self.assertEqual(self.check(system, steps), unit_grid(2))

    def test_without_numbers_in_the_state(self):
        for outs in range(5):
            for steps in range(13):
                self.assertEqual(self.check(System([], [], [[]] * outs), steps), [])

    def test_the_greatest_numbers(self):
        chance = random.Random(5)
        for sizes in [(8, 0, 4), (6, 1, 2), (4, 1, 1)]:
            system = some_system(chance, *sizes, 10 ** 6)
            for steps in [1, 2, 12]:
                self.check(system, steps)
        self.check(System(some_grid(chance, 3, 3, 10 ** 6), [], [row_of(0, 0, 0)]), 12)


if __name__ == "__main__":
    unittest.main()
