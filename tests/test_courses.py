import random
import unittest

from helmsum.courses import course, looks_along, pulses
from helmsum.rows import nought_row, row_plus, row_times, unit_row
from helmsum.systems import System

from helping import check_grid, row_of, some_grid, some_number, some_row, some_system, told

GREAT = 10 ** 6
SIZES = [(0, 0, 0), (0, 2, 3), (1, 0, 1), (1, 1, 0), (2, 1, 1), (3, 2, 4), (5, 0, 0), (8, 4, 4)]


class Courses(unittest.TestCase):
    def check(self, system, start, puts):
        states = told(self, course, system, start, puts)
        check_grid(self, states, len(puts) + 1, system.states)
        self.assertEqual(states[0], start)
        for number, row in enumerate(puts):
            self.assertEqual(states[number + 1], system.moved(states[number], row))
        looks = told(self, looks_along, system, start, puts)
        check_grid(self, looks, len(puts) + 1, system.outs)
        self.assertEqual(looks, [system.seen(state) for state in states])
        return states

    def test_by_hand(self):
        system = System([row_of(1, 1), row_of(0, 1)], [row_of(0, 1)], [row_of(1, 0)])
        puts = [row_of(1), row_of(0), row_of(-1)]
        states = [row_of(0, 0), row_of(0, 1), row_of(1, 1), row_of(2, 0)]
        self.assertEqual(self.check(system, row_of(0, 0), puts), states)
        self.assertEqual(looks_along(system, row_of(0, 0), puts), [row_of(0), row_of(0), row_of(1), row_of(2)])

    def test_no_rows_of_puts(self):
        chance = random.Random(1)
        for sizes in SIZES:
            system = some_system(chance, *sizes, 50)
            start = some_row(chance, system.states, 1000)
            self.assertEqual(self.check(system, start, []), [start])

    def test_up_to_twelve_rows_of_puts(self):
        chance = random.Random(2)
        for sizes in SIZES:
            for many in [1, 2, 7, 12]:
                system = some_system(chance, *sizes, 9)
                self.check(system, some_row(chance, system.states, 1000), some_grid(chance, many, system.ins, 1000))

    def test_the_greatest_numbers(self):
        chance = random.Random(3)
        system = some_system(chance, 8, 4, 4, GREAT)
        self.check(system, some_row(chance, 8, 1000), some_grid(chance, 12, 4, 1000))

    def test_without_puts_and_without_looks(self):
        system = System([row_of(2)], [], [])
        puts = [[] for turn in range(12)]
        self.assertEqual(self.check(system, row_of(1), puts), [row_of(2 ** step) for step in range(13)])
        self.assertEqual(looks_along(system, row_of(1), puts), [[] for turn in range(13)])

    def test_without_numbers_in_the_state(self):
        system = System([], [[]], [[], []])
        self.assertEqual(self.check(system, [], [row_of(1), row_of(2)]), [[], [], []])
        self.assertEqual(looks_along(system, [], [row_of(1), row_of(2)]), [row_of(0, 0)] * 3)

    def test_one_row_of_puts_many_times(self):
        system = System([row_of(1)], [row_of(1)], [row_of(2)])
        once = row_of(3)
        self.assertEqual(self.check(system, row_of(0), [once] * 4), [row_of(3 * step) for step in range(5)])

    def test_starts_and_puts_added_up_lead_to_the_sum(self):
        chance = random.Random(4)
        for sizes in SIZES:
            for many in [0, 1, 5, 12]:
                system = some_system(chance, *sizes, 6)
                by = some_number(chance, 30)
                one = self.some_run(chance, system, many)
                other = self.some_run(chance, system, many)
                both = (
                    row_plus(one[0], row_times(by, other[0])),
                    [row_plus(mine, row_times(by, yours)) for mine, yours in zip(one[1], other[1])],
                )
                ends = [course(system, start, puts)[-1] for start, puts in [one, other, both]]
                self.assertEqual(ends[2], row_plus(ends[0], row_times(by, ends[1])))

    def some_run(self, chance, system, many):
        return (some_row(chance, system.states, 50), some_grid(chance, many, system.ins, 50))


class Pulses(unittest.TestCase):
    def check(self, system, steps):
        answer = told(self, pulses, system, steps)
        self.assertEqual(len(answer), steps)
        for grid in answer:
            check_grid(self, grid, system.outs, system.ins)
        for put in range(system.ins):
            puts = [unit_row(system.ins, put)] + [nought_row(system.ins) for step in range(steps - 1)]
            looks = looks_along(system, nought_row(system.states), puts)
            for number, grid in enumerate(answer):
                self.assertEqual([row[put] for row in grid], looks[number + 1])
        return answer

    def test_by_hand(self):
        system = System([row_of(1, 1), row_of(0, 1)], [row_of(0, 1), row_of(3, 0)], [row_of(1, 0), row_of(0, 1)])
        expected = [
            [row_of(0, 3), row_of(1, 0)], [row_of(1, 3), row_of(1, 0)], [row_of(2, 3), row_of(1, 0)],
        ]
        self.assertEqual(self.check(system, 3), expected)

    def test_from_no_steps_to_sixteen(self):
        chance = random.Random(5)
        for sizes in SIZES:
            system = some_system(chance, *sizes, 3)
            whole = self.check(system, 16)
            for steps in range(17):
                self.assertEqual(told(self, pulses, system, steps), whole[:steps])

    def test_the_greatest_numbers(self):
        system = some_system(random.Random(6), 8, 4, 4, GREAT)
        self.check(system, 16)

    def test_no_steps(self):
        self.assertEqual(told(self, pulses, System([row_of(1)], [row_of(1)], [row_of(1)]), 0), [])

    def test_without_puts(self):
        self.assertEqual(self.check(System([row_of(1)], [], [row_of(1), row_of(2)]), 2), [[[], []], [[], []]])

    def test_without_looks(self):
        self.assertEqual(self.check(System([row_of(1)], [row_of(1)], []), 3), [[], [], []])

    def test_without_puts_and_without_looks(self):
        self.assertEqual(self.check(System([row_of(1)], [], []), 2), [[], []])

    def test_without_numbers_in_the_state(self):
        self.assertEqual(self.check(System([], [[], []], [[]]), 2), [[row_of(0, 0)], [row_of(0, 0)]])


if __name__ == "__main__":
    unittest.main()
