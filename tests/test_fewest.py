import random
import unittest

from helmsum.courses import course
from helmsum.fewest import soonest
from helmsum.reach import come
from helmsum.rows import row_plus, unit_row
from helmsum.systems import System

from helping import (
    check_grid, check_price, lists_in, nothing, plain, rest, row_of, some_grid, some_row, some_system, some_systems,
    told,
)


class Soonest(unittest.TestCase):
    def check(self, system, start, goal, most):
        answer = told(self, soonest, system, start, goal, most)
        self.assertIs(type(answer), tuple)
        self.assertEqual(len(answer), 3)
        steps, puts, prices = answer
        words = [come(system, start, goal, count)[0] for count in range(most + 1)]
        if "puts" in words:
            self.assertIs(type(steps), int)
            self.assertEqual(steps, words.index("puts"))
            check_grid(self, puts, steps, system.ins)
            self.assertEqual(course(system, start, puts)[-1], goal)
        else:
            self.assertIsNone(steps)
            self.assertEqual(puts, [])
        check_grid(self, prices, most + 1 if steps is None else steps, system.states)
        for count, price in enumerate(prices):
            check_price(self, system, start, goal, count, price)
        return answer

    def test_by_hand(self):
        cart = System([row_of(1, 1), row_of(0, 1)], [row_of(0, 1)], [])
        steps, puts, prices = self.check(cart, row_of(0, 0), row_of(2, 0), 12)
        self.assertEqual((steps, puts, len(prices)), (2, [row_of(2), row_of(-2)], 2))
        self.assertEqual(prices[1], [(1, 2), (0, 1)])
        self.assertEqual(self.check(cart, row_of(1, 2), row_of(3, 9), 12)[:2], (1, [row_of(7)]))
        self.assertEqual(self.check(cart, row_of(1, 2), row_of(1, 2), 12), (0, [], []))
        self.assertEqual(self.check(cart, row_of(0, 0), row_of(2, 0), 1)[:2], (None, []))

    def test_drawn_goals_and_every_greatest_count(self):
        chance = random.Random(1)
        found = set()
        for system in some_systems(chance):
            start, goal = some_grid(chance, 2, system.states, 9)
            for most in [0, 1, 2, 5, 12]:
                found.add(self.check(system, start, goal, most)[0])
        self.assertLessEqual({None, 0, 1, 2, 5, 8}, found)

    def test_goals_that_puts_lead_to(self):
        chance = random.Random(2)
        for system in some_systems(chance):
            for many in [0, 1, 3, 12]:
                start = some_row(chance, system.states, 9)
                goal = course(system, start, some_grid(chance, many, system.ins, 3))[-1]
                self.assertLessEqual(self.check(system, start, goal, 12)[0], many)
                self.check(system, rest(system), goal, 12)

    def test_at_most_no_steps(self):
        chance = random.Random(3)
        for system in some_systems(chance):
            start = some_row(chance, system.states, 1000)
            self.assertEqual(self.check(system, start, start, 0), (0, [], []))
            if system.states:
                goal = row_plus(start, unit_row(system.states, 0))
                steps, puts, prices = self.check(system, start, goal, 0)
                self.assertEqual((steps, puts, len(prices)), (None, [], 1))

    def test_just_the_greatest_count_and_one_less(self):
        mover = System([row_of(0, 1, 0), row_of(0, 0, 1), row_of(0, 0, 0)], [row_of(0, 0, 1)], [])
        self.assertEqual(self.check(mover, row_of(0, 0, 0), row_of(1, 0, 0), 3)[0], 3)
        self.assertIsNone(self.check(mover, row_of(0, 0, 0), row_of(1, 0, 0), 2)[0])

    def test_a_goal_to_which_nothing_but_nothing_leads(self):
        # Without puts a goal may be come to at one count of steps and at no other.
        system = System([row_of(2)], [], [])
        self.assertEqual(self.check(system, row_of(1), row_of(2 ** 12), 12)[:2], (12, [[]] * 12))
        self.assertEqual(self.check(system, row_of(1), row_of(2 ** 12), 11)[0], None)
        self.assertEqual(self.check(system, row_of(1), row_of(3), 12)[0], None)
        self.assertEqual(self.check(system, row_of(1), row_of(2 ** 14), 14)[0], 14)

    def test_more_than_as_many_steps_as_numbers_are_needed_from_some_starts(self):
        # What can't be steered must first go its own way to where the goal has it.
        system = System([row_of(1, 0, 0), row_of(0, 1, 1), row_of(0, 0, 1)], [row_of(1, 0, 0)], [])
        start = row_of(0, 0, 1)
        self.assertEqual(self.check(system, start, row_of(5, 7, 1), 12)[0], 7)

    def test_without_numbers_in_the_state(self):
        self.assertEqual(self.check(System([], [[]], []), [], [], 12), (0, [], []))

    def test_the_greatest_numbers(self):
        chance = random.Random(4)
        system = some_system(chance, 4, 2, 0, 10 ** 6)
        start, goal = some_grid(chance, 2, 4, 1000)
        self.assertEqual(self.check(system, start, goal, 12)[0], 2)

    def test_told_lists_may_be_changed(self):
        system = System([row_of(1, 1), row_of(0, 1)], [row_of(0, 1)], [])
        first = soonest(system, row_of(0, 0), row_of(2, 0), 4)
        kept = plain(first)
        for found in lists_in(first):
            found.clear()
        self.assertEqual(plain(soonest(system, row_of(0, 0), row_of(2, 0), 4)), kept)
        self.assertEqual(course(system, row_of(0, 1), nothing(system, 2))[-1], row_of(2, 1))


if __name__ == "__main__":
    unittest.main()
