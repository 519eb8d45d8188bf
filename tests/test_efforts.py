import random
import unittest
from fractions import Fraction

from helmsum.courses import course
from helmsum.efforts import effort, is_least, least, within
from helmsum.equations import nulls
from helmsum.reach import come, reach_rows
from helmsum.rows import row_minus, row_plus, row_times, unit_row
from helmsum.systems import System

from helping import (
    added_in, added_up, check_grid, check_number, check_price, check_row, dot, plain, rest, row_of, some_grid,
    some_number, some_row, some_system, some_systems, some_weights, told, told_as, value,
)


def effort_of(weights, puts):
    """The effort, reckoned with fractions."""
    pairs = [pair for row in puts for pair in zip(weights, row, strict=True)]
    return sum((value(weight) * value(put) ** 2 for weight, put in pairs), Fraction(0))


def idle_puts(chance, system, steps):
    """Drawn puts that lead from rest to rest in so many steps."""
    drawn = some_grid(chance, steps, system.ins, 5)
    back = come(system, rest(system), course(system, rest(system), drawn)[-1], steps)[1]
    return [row_minus(mine, yours) for mine, yours in zip(drawn, back)]


def some_goal(chance, system, start, steps):
    """A goal to which drawn puts lead."""
    return course(system, start, some_grid(chance, steps, system.ins, 4))[-1]


class Effort(unittest.TestCase):
    def test_by_hand(self):
        puts = [row_of(1, 2), [(1, 2), (-3, 1)]]
        self.assertEqual(told(self, effort, [(2, 1), (1, 3)], puts), (41, 6))
        self.assertEqual(told(self, effort, row_of(1), [row_of(3)]), (9, 1))

    def test_no_rows_and_no_puts(self):
        self.assertEqual(told(self, effort, row_of(1, 2), []), (0, 1))
        self.assertEqual(told(self, effort, [], [[], []]), (0, 1))
        self.assertEqual(told(self, effort, [], []), (0, 1))

    def test_drawn_puts(self):
        chance = random.Random(1)
        for ins in range(5):
            for steps in range(13):
                weights = some_weights(chance, ins, 1000)
                puts = some_grid(chance, steps, ins, 1000)
                answer = told(self, effort, weights, puts)
                check_number(self, answer)
                self.assertEqual(value(answer), effort_of(weights, puts))

    def test_one_row_many_times(self):
        row = [(2, 3), (-1, 1)]
        self.assertEqual(effort(row_of(9, 1), [row] * 5), (25, 1))


class Least(unittest.TestCase):
    def check(self, system, weights, start, goal, steps):
        answer = told(self, least, system, weights, start, goal, steps)
        self.assertIs(type(answer), tuple)
        if come(system, start, goal, steps)[0] == "never":
            self.assertEqual((answer[0], len(answer)), ("never", 2))
            check_price(self, system, start, goal, steps, answer[1])
        else:
            self.assertEqual((answer[0], len(answer)), ("puts", 4))
            check_number(self, answer[1])
            check_grid(self, answer[2], steps, system.ins)
            check_row(self, answer[3], system.states)
            self.assertEqual(course(system, start, answer[2])[-1], goal)
            self.assertEqual(value(answer[1]), effort_of(weights, answer[2]))
            self.check_asked(system, weights, answer[2], answer[3])
            self.assertIs(told(self, is_least, system, weights, start, goal, answer[2], answer[3]), True)
        return answer

    def check_asked(self, system, weights, puts, price):
        lists = added_in(system, len(puts))
        for time, row in enumerate(puts):
            asked = [dot(price, added) for added in lists[len(puts) - time - 1]]
            self.assertEqual([value(weight) * value(put) for weight, put in zip(weights, row)], asked)

    def test_by_hand(self):
        sum_up = System([row_of(1)], [row_of(1)], [])
        answer = self.check(sum_up, row_of(1), row_of(0), row_of(6), 3)
        self.assertEqual(answer, ("puts", (12, 1), [row_of(2)] * 3, row_of(2)))
        both = System([row_of(1)], [row_of(1), row_of(1)], [])
        answer = self.check(both, [(1, 1), (1, 3)], row_of(1), row_of(5), 1)
        self.assertEqual(answer, ("puts", (4, 1), [row_of(1, 3)], row_of(1)))
        cart = System([row_of(1, 1), row_of(0, 1)], [row_of(0, 1)], [])
        self.assertEqual(self.check(cart, row_of(5), row_of(0, 0), row_of(4, 0), 1), ("never", [(1, 4), (0, 1)]))

    def test_goals_that_puts_lead_to_in_each_count_of_steps(self):
        chance = random.Random(2)
        for system in some_systems(chance):
            for steps in range(13):
                weights = some_weights(chance, system.ins, 9)
                start = some_row(chance, system.states, 9)
                goal = some_goal(chance, system, start, steps)
                self.assertEqual(self.check(system, weights, start, goal, steps)[0], "puts")

    def test_drawn_goals_in_each_count_of_steps(self):
        chance = random.Random(3)
        words = set()
        for system in some_systems(chance):
            for steps in range(13):
                weights = some_weights(chance, system.ins, 1000)
                start, goal = some_grid(chance, 2, system.states, 9)
                words.add((self.check(system, weights, start, goal, steps)[0], steps))
        self.assertEqual(words, {(word, steps) for word in ["puts", "never"] for steps in range(13)})

    def test_whatever_else_leads_there_has_more_effort_by_that_of_the_difference(self):
        chance = random.Random(4)
        found = 0
        for system in some_systems(chance):
            for steps in [1, 3, 9, 12]:
                weights = some_weights(chance, system.ins, 9)
                start = some_row(chance, system.states, 9)
                goal = some_goal(chance, system, start, steps)
                word, least_effort, puts, price = least(system, weights, start, goal, steps)
                idle = idle_puts(chance, system, steps)
                other = [row_plus(mine, yours) for mine, yours in zip(puts, idle)]
                self.assertEqual(course(system, start, other)[-1], goal)
                self.assertEqual(effort_of(weights, other), value(least_effort) + effort_of(weights, idle))
                if effort_of(weights, idle) > 0:
                    found += 1
                    self.assertIs(is_least(system, weights, start, goal, other, price), False)
        self.assertGreater(found, 20)

    def test_no_steps(self):
        chance = random.Random(5)
        for system in some_systems(chance):
            weights = some_weights(chance, system.ins, 9)
            start = some_row(chance, system.states, 9)
            answer = self.check(system, weights, start, start, 0)
            self.assertEqual(answer[:3], ("puts", (0, 1), []))
            if system.states:
                goal = row_plus(start, unit_row(system.states, 0))
                self.assertEqual(self.check(system, weights, start, goal, 0)[0], "never")

    def test_without_puts(self):
        system = System([row_of(2)], [], [])
        self.assertEqual(self.check(system, [], row_of(1), row_of(8), 3)[:3], ("puts", (0, 1), [[], [], []]))
        self.assertEqual(self.check(system, [], row_of(1), row_of(9), 3), ("never", row_of(1)))

    def test_without_numbers_in_the_state(self):
        system = System([], [[], []], [])
        self.assertEqual(self.check(system, row_of(1, 2), [], [], 2), ("puts", (0, 1), [row_of(0, 0)] * 2, []))

    def test_the_greatest_numbers(self):
        chance = random.Random(6)
        for sizes in [(8, 4, 0), (4, 1, 0)]:
            system = some_system(chance, *sizes, 10 ** 6)
            start, goal = some_grid(chance, 2, system.states, 1000)
            for steps in [1, 4]:
                self.check(system, some_weights(chance, system.ins, 1000), start, goal, steps)


class IsLeast(unittest.TestCase):
    def test_the_price_must_be_right_at_each_put(self):
        cart = System([row_of(1, 1), row_of(0, 1)], [row_of(0, 1)], [])
        word, least_effort, puts, price = least(cart, row_of(2), row_of(0, 0), row_of(3, 1), 5)
        self.assertIs(told(self, is_least, cart, row_of(2), row_of(0, 0), row_of(3, 1), puts, price), True)
        for at in range(2):
            other = row_plus(price, unit_row(2, at))
            self.assertIs(told(self, is_least, cart, row_of(2), row_of(0, 0), row_of(3, 1), puts, other), False)
        self.assertIs(is_least(cart, row_of(3), row_of(0, 0), row_of(3, 1), puts, price), False)
        self.assertIs(is_least(cart, row_of(1), row_of(0, 0), row_of(3, 1), puts, row_times((1, 2), price)), True)

    def test_the_puts_must_lead_there(self):
        cart = System([row_of(1, 1), row_of(0, 1)], [row_of(0, 1)], [])
        word, least_effort, puts, price = least(cart, row_of(2), row_of(0, 0), row_of(3, 1), 5)
        self.assertIs(told(self, is_least, cart, row_of(2), row_of(0, 0), row_of(3, 2), puts, price), False)
        self.assertIs(told(self, is_least, cart, row_of(2), row_of(1, 0), row_of(3, 1), puts, price), False)
        self.assertIs(told(self, is_least, cart, row_of(2), row_of(0, 0), row_of(3, 1), puts[1:], price), False)
        self.assertIs(told(self, is_least, cart, row_of(2), row_of(0, 0), row_of(3, 1), [], price), False)
        self.assertIs(is_least(cart, row_of(2), row_of(0, 0), row_of(6, 2), puts, price), False)
        twice = [row_times((2, 1), row) for row in puts]
        self.assertIs(is_least(cart, row_of(2), row_of(0, 0), row_of(6, 2), twice, row_times((2, 1), price)), True)
        self.assertIs(is_least(cart, row_of(2), row_of(0, 0), row_of(6, 2), twice, price), False)

    def test_any_price_that_asks_for_these_puts_is_right(self):
        chance = random.Random(7)
        found = 0
        for system in some_systems(chance):
            for steps in [0, 1, 4]:
                weights = some_weights(chance, system.ins, 9)
                start = some_row(chance, system.states, 9)
                goal = some_goal(chance, system, start, steps)
                word, least_effort, puts, price = least(system, weights, start, goal, steps)
                free = nulls(reach_rows(system, steps), system.states)
                other = row_plus(price, added_up(free, some_row(chance, len(free), 9), system.states))
                found += other != price
                self.assertIs(told(self, is_least, system, weights, start, goal, puts, other), True)
        self.assertGreater(found, 20)

    def test_no_steps(self):
        system = System([row_of(1, 1), row_of(0, 1)], [row_of(0, 1)], [])
        for price in [row_of(0, 0), row_of(5, -7)]:
            self.assertIs(told(self, is_least, system, row_of(1), row_of(1, 2), row_of(1, 2), [], price), True)
            self.assertIs(told(self, is_least, system, row_of(1), row_of(1, 2), row_of(1, 3), [], price), False)

    def test_each_put_changed_by_itself(self):
        # With no move at all the early puts add nothing, so only the price can tell that they are too many.
        forgets = System([row_of(0)], [row_of(1)], [])
        puts = [row_of(0), row_of(0), row_of(4)]
        self.assertIs(told(self, is_least, forgets, row_of(2), row_of(9), row_of(4), puts, row_of(8)), True)
        for at in range(2):
            other = puts[:at] + [row_of(1)] + puts[at + 1:]
            self.assertEqual(course(forgets, row_of(9), other)[-1], row_of(4))
            self.assertIs(told(self, is_least, forgets, row_of(2), row_of(9), row_of(4), other, row_of(8)), False)


class Within(unittest.TestCase):
    def check(self, system, weights, start, goal, most, limit):
        answer = told(self, within, system, weights, start, goal, most, limit)
        right = []
        for steps in range(most + 1):
            found = least(system, weights, start, goal, steps)
            if found[0] == "puts" and value(found[1]) <= value(limit):
                right.append((steps, found))
        self.assertEqual(plain(answer), plain(right[0]) if right else None)
        return answer

    def test_by_hand(self):
        sum_up = System([row_of(1)], [row_of(1)], [])
        for steps in range(1, 13):
            limit = told_as(Fraction(36, steps))
            answer = self.check(sum_up, row_of(1), row_of(0), row_of(6), 12, limit)
            self.assertIs(type(answer), tuple)
            self.assertEqual(answer[0], steps)
            self.assertEqual(answer[1][:2], ("puts", limit))
            self.assertIsNone(self.check(sum_up, row_of(1), row_of(0), row_of(6), steps - 1, limit))
            less = told_as(Fraction(36, steps) - Fraction(1, 1000))
            answer = self.check(sum_up, row_of(1), row_of(0), row_of(6), 12, less)
            self.assertEqual(answer[0] if answer else None, steps + 1 if steps < 12 else None)

    def test_limits_met_just_so_and_missed_by_little(self):
        chance = random.Random(8)
        for system in some_systems(chance)[:22]:
            weights = some_weights(chance, system.ins, 9)
            start = some_row(chance, system.states, 5)
            goal = some_goal(chance, system, start, 6)
            limit = least(system, weights, start, goal, 6)[1]
            answer = self.check(system, weights, start, goal, 6, limit)
            self.assertLessEqual(answer[0], 6)
            self.check(system, weights, start, goal, 7, told_as(value(limit) * Fraction(999, 1000)))

    def test_none(self):
        cart = System([row_of(1, 1), row_of(0, 1)], [row_of(0, 1)], [])
        self.assertIsNone(self.check(cart, row_of(1), row_of(0, 0), row_of(2, 0), 1, (1000, 1)))
        self.assertIsNone(self.check(cart, row_of(1), row_of(0, 0), row_of(0, 0), 12, (-1, 1000)))
        self.assertIsNone(self.check(System([row_of(2)], [], []), [], row_of(1), row_of(3), 12, (1000, 1)))

    def test_no_effort_and_no_steps(self):
        cart = System([row_of(1, 1), row_of(0, 1)], [row_of(0, 1)], [])
        self.assertEqual(self.check(cart, row_of(1), row_of(1, 1), row_of(1, 1), 0, (0, 1))[0], 0)
        self.assertEqual(self.check(cart, row_of(1), row_of(0, 1), row_of(7, 1), 12, (0, 1))[0], 7)
        self.assertIsNone(self.check(cart, row_of(1), row_of(0, 1), row_of(7, 1), 6, (0, 1)))


class WhatFollows(unittest.TestCase):
    def test_from_rest_more_steps_never_need_more_effort(self):
        chance = random.Random(9)
        for system in some_systems(chance):
            weights = some_weights(chance, system.ins, 9)
            goal = some_goal(chance, system, rest(system), 2)
            efforts = [value(least(system, weights, rest(system), goal, steps)[1]) for steps in range(2, 13)]
            self.assertEqual(efforts, sorted(efforts, reverse=True))

    def test_the_effort_of_sums_of_goals(self):
        chance = random.Random(10)
        for system in some_systems(chance):
            for steps in [1, 4, 12]:
                weights = some_weights(chance, system.ins, 9)
                one, other = [some_goal(chance, system, rest(system), steps) for turn in range(2)]
                by = value(some_number(chance, 9))
                mine, yours = [least(system, weights, rest(system), goal, steps) for goal in [one, other]]
                both = value(mine[1]) + 2 * by * dot(mine[3], other) + by * by * value(yours[1])
                goal = row_plus(one, row_times(told_as(by), other))
                self.assertEqual(value(least(system, weights, rest(system), goal, steps)[1]), both)
                goals = [row_plus(one, other), row_minus(one, other)]
                efforts = [value(least(system, weights, rest(system), goal, steps)[1]) for goal in goals]
                self.assertEqual(sum(efforts), 2 * (value(mine[1]) + value(yours[1])))


if __name__ == "__main__":
    unittest.main()
