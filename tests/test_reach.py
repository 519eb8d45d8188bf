import random
import unittest

from helmsum.courses import course
from helmsum.reach import come, reach_rows
from helmsum.rows import row_minus, row_plus, row_times
from helmsum.systems import System

from helping import (
    SIZES, added_in, added_up, check_grid, check_price, in_span, left_over, nothing, plain, reduced_by_fractions, rest,
    row_of, some_grid, some_number, some_row, some_system, some_systems, told,
)

GREAT = 10 ** 6


class ReachRows(unittest.TestCase):
    def check(self, system, steps):
        answer = told(self, reach_rows, system, steps)
        check_grid(self, answer, len(answer), system.states)
        rows = [row for rows in added_in(system, steps) for row in rows]
        self.assertEqual(answer, reduced_by_fractions(rows, system.states))
        return answer

    def test_by_hand(self):
        system = System([row_of(1, 1, 0), row_of(0, 1, 0), row_of(0, 0, 5)], [row_of(0, 2, 4)], [])
        self.assertEqual(self.check(system, 0), [])
        self.assertEqual(self.check(system, 1), [row_of(0, 1, 2)])
        self.assertEqual(self.check(system, 2), [row_of(1, 0, 8), row_of(0, 1, 2)])
        self.assertEqual(self.check(system, 3), [row_of(1, 0, 0), row_of(0, 1, 0), row_of(0, 0, 1)])

    def test_each_count_of_steps(self):
        for system in some_systems(random.Random(1)):
            lists = [self.check(system, steps) for steps in range(14)]
            self.assertEqual(lists[0], [])
            for steps in range(13):
                for row in lists[steps]:
                    self.assertTrue(in_span(lists[steps + 1], system.states, row))
                if lists[steps + 1] == lists[steps]:
                    self.assertEqual(lists[steps:], [lists[steps]] * (14 - steps))
            self.assertEqual(lists[system.states:], [lists[system.states]] * (14 - system.states))

    def test_the_greatest_numbers(self):
        chance = random.Random(2)
        for sizes in [(8, 4, 0), (6, 2, 1), (4, 1, 1)]:
            system = some_system(chance, *sizes, GREAT)
            for steps in [1, 2, 12]:
                answer = told(self, reach_rows, system, steps)
                rows = [row for rows in added_in(system, min(steps, system.states)) for row in rows]
                self.assertEqual(answer, reduced_by_fractions(rows, system.states))

    def test_without_puts(self):
        system = System([row_of(1, 2), row_of(3, 4)], [], [])
        for steps in range(13):
            self.assertEqual(self.check(system, steps), [])

    def test_without_numbers_in_the_state(self):
        for ins in range(5):
            for steps in range(13):
                self.assertEqual(self.check(System([], [[]] * ins, []), steps), [])

    def test_what_puts_lead_to_is_in_the_span_and_nothing_else(self):
        chance = random.Random(3)
        for system in some_systems(chance):
            for steps in [0, 1, 2, 5, 12]:
                rows = reach_rows(system, steps)
                end = course(system, rest(system), some_grid(chance, steps, system.ins, 9))[-1]
                self.assertTrue(in_span(rows, system.states, end))
                for row in rows:
                    self.assertEqual(come(system, rest(system), row, steps)[0], "puts")


class Come(unittest.TestCase):
    def check(self, system, start, goal, steps):
        answer = told(self, come, system, start, goal, steps)
        self.assertIs(type(answer), tuple)
        self.assertEqual(len(answer), 2)
        rows = [row for rows in added_in(system, min(steps, system.states)) for row in rows]
        if in_span(rows, system.states, left_over(system, start, goal, steps)):
            self.assertEqual(answer[0], "puts")
            check_grid(self, answer[1], steps, system.ins)
            self.assertEqual(course(system, start, answer[1])[-1], goal)
        else:
            self.assertEqual(answer[0], "never")
            check_price(self, system, start, goal, steps, answer[1])
        return answer

    def test_by_hand(self):
        cart = System([row_of(1, 1), row_of(0, 1)], [row_of(0, 1)], [])
        self.assertEqual(self.check(cart, row_of(0, 0), row_of(1, 0), 2), ("puts", [row_of(1), row_of(-1)]))
        self.assertEqual(self.check(cart, row_of(0, 0), row_of(4, 0), 1), ("never", [(1, 4), (0, 1)]))
        self.assertEqual(self.check(cart, row_of(0, 3), row_of(3, 5), 1), ("puts", [row_of(2)]))
        self.assertEqual(self.check(cart, row_of(1, 2), row_of(1, 2), 0), ("puts", []))
        self.assertEqual(self.check(cart, row_of(1, 2), row_of(1, 2), 1)[0], "never")

    def test_each_count_of_steps_to_goals_that_puts_lead_to(self):
        chance = random.Random(4)
        for system in some_systems(chance):
            for steps in range(13):
                start = some_row(chance, system.states, 20)
                goal = course(system, start, some_grid(chance, steps, system.ins, 5))[-1]
                self.assertEqual(self.check(system, start, goal, steps)[0], "puts")

    def test_each_count_of_steps_to_drawn_goals(self):
        chance = random.Random(5)
        words = set()
        for system in some_systems(chance):
            for steps in list(range(13)) + [14]:
                start = some_row(chance, system.states, 20) if chance.randrange(3) else rest(system)
                words.add((self.check(system, start, some_row(chance, system.states, 20), steps)[0], steps))
        self.assertEqual(words, {(word, steps) for word in ["puts", "never"] for steps in list(range(13)) + [14]})

    def test_the_greatest_numbers(self):
        chance = random.Random(6)
        for sizes in [(8, 4, 0), (6, 2, 1), (4, 1, 1)]:
            system = some_system(chance, *sizes, GREAT)
            for steps in [1, 2, 6]:
                start, goal = some_grid(chance, 2, system.states, 1000)
                self.check(system, start, goal, steps)

    def test_no_steps(self):
        chance = random.Random(7)
        for system in some_systems(chance):
            start = some_row(chance, system.states, 1000)
            self.assertEqual(self.check(system, start, start, 0), ("puts", []))
            if system.states:
                goal = row_plus(start, row_of(*[1] * system.states))
                self.assertEqual(self.check(system, start, goal, 0)[0], "never")

    def test_without_puts_nothing_alone_leads(self):
        chance = random.Random(8)
        system = some_system(chance, 3, 0, 0, 5)
        for steps in range(13):
            start = some_row(chance, 3, 9)
            goal = course(system, start, [[]] * steps)[-1]
            self.assertEqual(self.check(system, start, goal, steps), ("puts", [[]] * steps))
            self.assertEqual(self.check(system, start, row_plus(goal, row_of(0, 0, 1)), steps)[0], "never")

    def test_without_numbers_in_the_state(self):
        for steps in range(13):
            answer = self.check(System([], [[], []], []), [], [], steps)
            self.assertEqual(answer[0], "puts")

    def test_start_and_goal_may_be_one_list(self):
        state = row_of(1, 2)
        self.check(System([row_of(1, 1), row_of(0, 1)], [row_of(0, 1)], []), state, state, 3)

    def test_another_system_with_the_same_fields_is_told_the_same(self):
        chance = random.Random(9)
        for sizes in SIZES:
            system = some_system(chance, *sizes, 4)
            twin = System(system.move, system.put, system.look)
            start, goal = some_grid(chance, 2, system.states, 9)
            for steps in [0, 3, 12]:
                self.assertEqual(plain(come(twin, start, goal, steps)), plain(come(system, start, goal, steps)))


class WhatFollows(unittest.TestCase):
    """Over whole courses: what leads from a start leads from rest to the rest of the way, and sums lead to sums."""

    def test_from_a_start_just_where_from_rest_to_what_is_left(self):
        chance = random.Random(10)
        for system in some_systems(chance):
            for steps in range(13):
                start, goal = some_grid(chance, 2, system.states, 6)
                left = row_minus(goal, course(system, start, nothing(system, steps))[-1])
                word, puts = come(system, start, goal, steps)
                self.assertEqual(come(system, rest(system), left, steps)[0], word)
                if word == "puts":
                    self.assertEqual(course(system, rest(system), puts)[-1], left)

    def test_what_is_come_to_from_rest_at_all_is_come_to_in_as_many_steps_as_there_are_numbers(self):
        chance = random.Random(11)
        for system in some_systems(chance):
            goal = course(system, rest(system), some_grid(chance, 12, system.ins, 3))[-1]
            self.assertEqual(come(system, rest(system), goal, system.states)[0], "puts")
            goal = some_row(chance, system.states, 9)
            if come(system, rest(system), goal, system.states)[0] == "never":
                for steps in range(14):
                    self.assertEqual(come(system, rest(system), goal, steps)[0], "never")

    def test_told_puts_added_up_lead_to_the_sum(self):
        chance = random.Random(12)
        for system in some_systems(chance):
            for steps in [1, 4, 12]:
                by = some_number(chance, 9)
                rows = reach_rows(system, steps)
                goals = [added_up(rows, some_row(chance, len(rows), 9), system.states) for turn in range(2)]
                one, other = [come(system, rest(system), goal, steps)[1] for goal in goals]
                both = [row_plus(mine, row_times(by, yours)) for mine, yours in zip(one, other)]
                end = course(system, rest(system), both)[-1]
                self.assertEqual(end, row_plus(goals[0], row_times(by, goals[1])))


if __name__ == "__main__":
    unittest.main()
