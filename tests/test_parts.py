import random
import unittest

from helmsum.bases import in_basis, seen_first, steered_first
from helmsum.courses import pulses
from helmsum.grids import unit_grid
from helmsum.parts import four_parts, seen_part, smallest, steered_part
from helmsum.reach import reach_rows
from helmsum.systems import System
from helmsum.unseen import unseen_rows

from helping import (
    all_sorts, check_grid, check_same_looks, fields, is_system, joined, parted_system, plain, reduced_by_fractions,
    row_of, some_grid, some_system, told,
)


def first_alone(system, many):
    """The fields of a System that keeps the first many places of the state alone."""
    return [
        [row[:many] for row in system.move[:many]], [row[:many] for row in system.put],
        [row[:many] for row in system.look], many, system.ins, system.outs,
    ]


def rank_of_pulses(system):
    """How many numbers no system with these looks from rest can do without: the rank of the grid of its pulses."""
    many = system.states
    known = pulses(system, 2 * many)
    rows = [joined([known[time + later][look] for later in range(many)]) for time in range(many)
            for look in range(system.outs)]
    return len(reduced_by_fractions(rows, many * system.ins))


class Parts(unittest.TestCase):
    def check(self, function, system, chance):
        answer = told(self, function, system)
        self.assertTrue(is_system(answer))
        check_grid(self, answer.move, answer.states, answer.states)
        check_same_looks(self, system, answer, chance)
        return answer

    def test_by_hand(self):
        chance = random.Random(1)
        # The second number can't be steered, the third isn't seen.
        system = System(
            [row_of(2, 1, 0), row_of(0, 3, 0), row_of(1, 1, 5)], [row_of(1, 0, 1)], [row_of(4, 1, 0)],
        )
        steered = self.check(steered_part, system, chance)
        self.assertEqual(fields(steered)[:3], [[row_of(2, 0), row_of(1, 5)], [row_of(1, 1)], [row_of(4, 0)]])
        seen = self.check(seen_part, system, chance)
        self.assertEqual(fields(seen)[:3], [[row_of(2, 1), row_of(0, 3)], [row_of(1, 0)], [row_of(4, 1)]])
        small = self.check(smallest, system, chance)
        self.assertEqual(fields(small)[:3], [[row_of(2)], [row_of(1)], [row_of(4)]])

    def test_steered_part(self):
        chance = random.Random(2)
        for system in all_sorts(3):
            rows, many = steered_first(system)
            answer = self.check(steered_part, system, chance)
            self.assertEqual(fields(answer), first_alone(in_basis(system, rows), many))
            self.assertEqual(reach_rows(answer, many), unit_grid(many))

    def test_seen_part(self):
        chance = random.Random(4)
        for system in all_sorts(5):
            rows, many = seen_first(system)
            answer = self.check(seen_part, system, chance)
            self.assertEqual(fields(answer), first_alone(in_basis(system, rows), many))
            self.assertEqual(unseen_rows(answer, many), [])

    def test_smallest(self):
        chance = random.Random(6)
        for system in all_sorts(7):
            answer = self.check(smallest, system, chance)
            self.assertEqual(fields(answer), fields(seen_part(steered_part(system))))
            self.assertEqual(unseen_rows(answer, answer.states), [])
            self.assertEqual(reach_rows(answer, answer.states), unit_grid(answer.states))
            self.assertEqual(answer.states, rank_of_pulses(system))
            self.assertEqual(self.check(smallest, answer, chance).states, answer.states)

    def test_nothing_is_left(self):
        chance = random.Random(8)
        move = some_grid(chance, 3, 3, 9)
        blind = System(move, [row_of(1, 2, 3)], [])
        still = System(move, [], [row_of(1, 2, 3)])
        noughts = System(move, [row_of(0, 0, 0)], [row_of(0, 0, 0), row_of(0, 0, 0)])
        self.assertEqual(fields(self.check(seen_part, blind, chance)), [[], [[]], [], 0, 1, 0])
        self.assertEqual(fields(self.check(steered_part, still, chance)), [[], [], [[]], 0, 0, 1])
        self.assertEqual(fields(self.check(smallest, noughts, chance)), [[], [[]], [[], []], 0, 1, 2])
        # What is steered isn't seen, and what is seen isn't steered.
        crossed = System([row_of(1, 0), row_of(0, 1)], [row_of(1, 0)], [row_of(0, 1)])
        self.assertEqual(self.check(steered_part, crossed, chance).states, 1)
        self.assertEqual(self.check(seen_part, crossed, chance).states, 1)
        self.assertEqual(self.check(smallest, crossed, chance).states, 0)

    def test_without_numbers_in_the_state(self):
        chance = random.Random(9)
        for ins in range(5):
            for outs in range(5):
                system = System([], [[]] * ins, [[]] * outs)
                for function in [steered_part, seen_part, smallest]:
                    self.assertEqual(fields(self.check(function, system, chance)), fields(system))

    def test_a_smallest_one_stays_as_it_is(self):
        system = some_system(random.Random(10), 5, 2, 2, 1000)
        for function in [steered_part, seen_part, smallest]:
            self.assertEqual(fields(told(self, function, system)), fields(system))

    def test_great_numbers(self):
        chance = random.Random(11)
        for sizes, ins, outs in [((2, 2, 2, 2), 1, 1), ((0, 5, 0, 3), 2, 2), ((3, 5, 0, 0), 1, 1)]:
            system = parted_system(chance, sizes, ins, outs, 1000)
            for function in [steered_part, seen_part, smallest]:
                self.check(function, system, chance)
        self.check(smallest, some_system(chance, 8, 4, 4, 10 ** 6), chance)


class FourParts(unittest.TestCase):
    def check(self, system):
        answer = told(self, four_parts, system)
        self.assertIs(type(answer), tuple)
        self.assertEqual(len(answer), 4)
        wide = system.states
        for rows in answer:
            check_grid(self, rows, len(rows), wide)
        both, steered, hidden, others = answer
        together = both + steered + hidden + others
        self.assertEqual(len(together), wide)
        self.assertEqual(reduced_by_fractions(together, wide), unit_grid(wide))
        reach = reach_rows(system, wide)
        unseen = unseen_rows(system, wide)
        self.assertEqual(reduced_by_fractions(both + steered, wide), reach)
        self.assertEqual(reduced_by_fractions(both + hidden, wide), unseen)
        # What is in both spans has as many rows as both have together less those of what they span together.
        either = len(reduced_by_fractions(reach + unseen, wide))
        self.assertEqual(len(both), len(reach) + len(unseen) - either)
        self.assertEqual(len(steered), smallest(system).states)
        return [len(rows) for rows in answer]

    def test_by_hand(self):
        system = System(
            [row_of(2, 1, 0), row_of(0, 3, 0), row_of(1, 1, 5)], [row_of(1, 0, 1)], [row_of(4, 1, 0)],
        )
        self.assertEqual(self.check(system), [1, 1, 0, 1])
        # Neither span is one of unit rows: what is come to is (1, 1), what is unseen (1, -1).
        askew = System([row_of(3, 0), row_of(0, 3)], [row_of(1, 1)], [row_of(1, 1)])
        self.assertEqual(self.check(askew), [0, 1, 1, 0])
        one_of_two = System([row_of(3, 0), row_of(0, 3)], [row_of(1, 1)], [row_of(1, -1)])
        self.assertEqual(self.check(one_of_two), [1, 0, 0, 1])

    def test_all_sorts(self):
        empty = set()
        for system in all_sorts(12):
            empty.add(tuple(size == 0 for size in self.check(system)))
        for place in range(4):
            self.assertEqual({each[place] for each in empty}, {True, False})
        self.assertIn((False, False, False, False), empty)

    def test_one_part_alone(self):
        move = some_grid(random.Random(13), 4, 4, 9)
        self.assertEqual(self.check(System(move, [], [])), [0, 0, 4, 0])
        self.assertEqual(self.check(System(move, unit_grid(4), [])), [4, 0, 0, 0])
        self.assertEqual(self.check(System(move, [], unit_grid(4))), [0, 0, 0, 4])
        self.assertEqual(self.check(System(move, unit_grid(4), unit_grid(4))), [0, 4, 0, 0])

    def test_without_numbers_in_the_state(self):
        self.assertEqual(plain(told(self, four_parts, System([], [[]], [[], []]))), ([], [], [], []))

    def test_the_greatest_numbers(self):
        chance = random.Random(14)
        self.check(some_system(chance, 8, 4, 4, 10 ** 6))
        self.check(parted_system(chance, (2, 2, 2, 2), 1, 1, 1000))


if __name__ == "__main__":
    unittest.main()
