import random
import unittest

from helmsum.courses import course
from helmsum.equations import nulls
from helmsum.fewest import soonest
from helmsum.grids import unit_grid
from helmsum.reach import come, reach_rows
from helmsum.rows import row_plus, unit_row
from helmsum.shut import is_shut, shut_off, unsteered
from helmsum.systems import System

from helping import (
    BOUND, added_up, bound_system, check_grid, dot, over_move, rest, row_of, some_grid, some_row, some_systems, told,
    value,
)


def shuts(system, goal, rows, weights):
    """Whether these rows and weights shut the goal off, reckoned with fractions."""
    if not rows or len(weights) != len(rows) or any(len(each) != len(rows) for each in weights):
        return False
    still = all(dot(row, put) == 0 for row in rows for put in system.put)
    pairs = list(zip(rows, weights))
    kept = all(over_move(system, row) == added_up(rows, each, system.states) for row, each in pairs)
    return still and kept and dot(rows[0], goal) != 0


def shut_cases(chance):
    """Systems with goals that are never come to from rest."""
    cases = []
    for states, ins, steered in BOUND:
        system = bound_system(chance, states, ins, 1, steered, 4)
        goal = some_row(chance, states, 20)
        while come(system, rest(system), goal, states)[0] == "puts":
            goal = some_row(chance, states, 20)
        cases.append((system, goal))
    return cases


class ShutOff(unittest.TestCase):
    def check(self, system, goal):
        answer = told(self, shut_off, system, goal)
        self.assertIs(type(answer), tuple)
        self.assertEqual(len(answer), 3)
        steps = soonest(system, rest(system), goal, 13)[0]
        if steps is None:
            self.assertEqual(answer[0], "never")
            many = len(answer[1])
            self.assertLessEqual(many, 8)
            check_grid(self, answer[1], many, system.states)
            check_grid(self, answer[2], many, many)
            self.assertTrue(shuts(system, goal, answer[1], answer[2]))
            self.assertIs(told(self, is_shut, system, goal, answer[1], answer[2]), True)
        else:
            self.assertEqual(answer[:2], ("in", steps))
            self.assertIs(type(answer[1]), int)
            self.assertLessEqual(steps, system.states)
            check_grid(self, answer[2], steps, system.ins)
            self.assertEqual(course(system, rest(system), answer[2])[-1], goal)
        return answer

    def test_by_hand(self):
        cart = System([row_of(1, 1), row_of(0, 1)], [row_of(0, 1)], [])
        self.assertEqual(self.check(cart, row_of(2, 0)), ("in", 2, [row_of(2), row_of(-2)]))
        self.assertEqual(self.check(cart, row_of(0, 3)), ("in", 1, [row_of(3)]))
        self.assertEqual(self.check(cart, row_of(0, 0)), ("in", 0, []))
        split = System([row_of(1, 1), row_of(0, 3)], [row_of(1, 0)], [])
        self.assertEqual(self.check(split, row_of(5, 1)), ("never", [row_of(0, 1)], [row_of(3)]))

    def test_drawn_goals(self):
        chance = random.Random(1)
        words = set()
        for system in some_systems(chance):
            for turn in range(3):
                words.add(self.check(system, some_row(chance, system.states, 20))[0])
        self.assertEqual(words, {"in", "never"})

    def test_goals_that_puts_lead_to(self):
        chance = random.Random(2)
        for system in some_systems(chance):
            for many in [0, 1, 2, 12]:
                goal = course(system, rest(system), some_grid(chance, many, system.ins, 3))[-1]
                answer = self.check(system, goal)
                self.assertEqual(answer[0], "in")
                self.assertLessEqual(answer[1], min(many, system.states))

    def test_a_first_row_that_does_not_see_the_goal_is_not_told_first(self):
        system = System([row_of(0, 1, 0), row_of(0, 0, 1), row_of(1, 0, 0)], [], [])
        for at in range(3):
            answer = self.check(system, unit_row(3, at))
            self.assertEqual(answer[0], "never")

    def test_what_is_shut_off_is_come_to_in_no_count_of_steps(self):
        for system, goal in shut_cases(random.Random(3)):
            self.assertEqual(self.check(system, goal)[0], "never")
            for steps in range(14):
                self.assertEqual(come(system, rest(system), goal, steps)[0], "never")

    def test_the_rows_stay_shut_along_courses_from_rest(self):
        chance = random.Random(4)
        for system, goal in shut_cases(chance):
            rows = shut_off(system, goal)[1]
            for state in course(system, rest(system), some_grid(chance, 12, system.ins, 9)):
                self.assertEqual([dot(row, state) for row in rows], [0] * len(rows))

    def test_without_puts(self):
        system = System([row_of(1, 2), row_of(3, 4)], [], [])
        self.assertEqual(self.check(system, row_of(0, 0)), ("in", 0, []))
        self.assertEqual(self.check(system, row_of(0, 1))[0], "never")

    def test_without_numbers_in_the_state(self):
        for ins in range(5):
            self.assertEqual(self.check(System([], [[]] * ins, []), []), ("in", 0, []))


class IsShut(unittest.TestCase):
    def check(self, system, goal, rows, weights, expected):
        self.assertIs(told(self, is_shut, system, goal, rows, weights), expected)
        self.assertIs(shuts(system, goal, rows, weights), expected)

    def test_by_hand(self):
        system = System([row_of(1, 1, 0), row_of(0, 2, 1), row_of(0, 0, 3)], [row_of(1, 0, 0)], [])
        rows = [row_of(0, 1, 0), row_of(0, 0, 1)]
        weights = [row_of(2, 1), row_of(0, 3)]
        self.check(system, row_of(7, 5, 0), rows, weights, True)
        self.check(system, row_of(7, 0, 5), rows, weights, False)
        self.check(system, row_of(7, 0, 5), rows[1:], [row_of(3)], True)
        self.check(system, row_of(7, 5, 0), rows[:1], [row_of(2)], False)

    def test_no_rows(self):
        for system, goal in shut_cases(random.Random(5)):
            for weights in [[], [[]], [row_of(1)], [[], []], some_grid(random.Random(6), 9, 9, 3)]:
                self.check(system, goal, [], weights, False)

    def test_lengths_of_weights_that_are_not_as_told(self):
        for system, goal in shut_cases(random.Random(7)):
            word, rows, weights = shut_off(system, goal)
            self.check(system, goal, rows, weights, True)
            many = len(rows)
            wrong = [
                [], [[]], weights[:-1], weights[1:], weights + [weights[0]], weights + [[]], [[] for row in rows],
                [row[:-1] for row in weights], [row + row_of(0) for row in weights],
                weights[:-1] + [weights[-1] + row_of(0)], weights[:-1] + [weights[-1][:-1]],
                [weights[0] + row_of(0)] + weights[1:], [row_of(*[0] * (many + 1)) for turn in range(many + 1)],
            ]
            for each in wrong:
                self.check(system, goal, rows, each, False)

    def test_a_first_row_that_does_not_see_the_goal(self):
        for system, goal in shut_cases(random.Random(8)):
            word, rows, weights = shut_off(system, goal)
            unseen = course(system, rest(system), [row_of(*[1] * system.ins)] * 3)[-1]
            self.check(system, unseen, rows, weights, False)
            self.check(system, rest(system), rows, weights, False)
            for row in rows[1:]:
                others = [each for each in nulls([rows[0]], system.states) if dot(row, each) != 0]
                self.check(system, others[0], rows, weights, False)
                self.assertEqual(shut_off(system, others[0])[0], "never")

    def test_weights_that_do_not_fit_the_move(self):
        for system, goal in shut_cases(random.Random(9)):
            word, rows, weights = shut_off(system, goal)
            for number in range(len(rows)):
                for place in range(len(rows)):
                    wrong = [list(row) for row in weights]
                    wrong[number] = row_plus(wrong[number], unit_row(len(rows), place))
                    self.check(system, goal, rows, wrong, False)

    def test_rows_that_puts_change(self):
        system = System([row_of(1, 0), row_of(0, 1)], [row_of(0, 1), row_of(1, 0)], [])
        self.check(system, row_of(1, 0), [row_of(1, 0)], [row_of(1)], False)
        self.check(system, row_of(0, 1), [row_of(0, 1)], [row_of(1)], False)
        still = System([row_of(1, 0), row_of(0, 1)], [row_of(0, 1)], [])
        self.check(still, row_of(1, 0), [row_of(1, 0)], [row_of(1)], True)
        self.check(still, row_of(1, 0), [row_of(1, 0), row_of(0, 1)], unit_grid(2), False)

    def test_other_rows_that_shut_the_goal_off_too(self):
        system = System([row_of(1, 1, 0), row_of(0, 2, 1), row_of(0, 0, 3)], [row_of(1, 0, 0)], [])
        goal = row_of(7, 5, 0)
        stretched = [row_of(0, 5, 0), row_of(0, 0, 1)]
        self.check(system, goal, stretched, [row_of(2, 5), row_of(0, 3)], True)
        with_one_twice = [row_of(0, 1, 0), row_of(0, 0, 1), row_of(0, 0, 1), row_of(0, 0, 0)]
        weights = [row_of(2, 0, 1, 9), row_of(0, 4, -1, 0), row_of(0, 3, 0, 0), row_of(0, 0, 0, 5)]
        self.check(system, goal, with_one_twice, weights, True)
        self.check(system, goal, with_one_twice * 2, [row + row_of(0, 0, 0, 0) for row in weights] * 2, True)

    def test_no_rows_and_weights_shut_off_what_is_come_to(self):
        chance = random.Random(10)
        for system in some_systems(chance):
            goal = course(system, rest(system), some_grid(chance, 4, system.ins, 3))[-1]
            rows, weights = unsteered(system)
            self.check(system, goal, rows, weights, False)
            for many in [1, 2]:
                drawn = some_grid(chance, many, system.states, 2)
                self.check(system, goal, drawn, some_grid(chance, many, many, 2), False)
                self.check(system, goal, drawn, unit_grid(many), False)

    def test_without_numbers_in_the_state(self):
        self.check(System([], [[]], []), [], [[]], [row_of(1)], False)
        self.check(System([], [], []), [], [], [], False)


class Unsteered(unittest.TestCase):
    def check(self, system, chance):
        answer = told(self, unsteered, system)
        self.assertIs(type(answer), tuple)
        self.assertEqual(len(answer), 2)
        rows, weights = answer
        self.assertEqual(rows, nulls(reach_rows(system, system.states), system.states))
        check_grid(self, rows, len(rows), system.states)
        check_grid(self, weights, len(rows), len(rows))
        states = course(system, some_row(chance, system.states, 9), some_grid(chance, 5, system.ins, 9))
        for state, following in zip(states, states[1:]):
            dots = [dot(row, state) for row in rows]
            for row, each in zip(rows, weights):
                moved = sum(value(weight) * number for weight, number in zip(each, dots))
                self.assertEqual(dot(row, following), moved)
        return answer

    def test_by_hand(self):
        system = System([row_of(1, 1, 0), row_of(0, 2, 1), row_of(0, 0, 3)], [row_of(1, 0, 0)], [])
        expected = ([row_of(0, 1, 0), row_of(0, 0, 1)], [row_of(2, 1), row_of(0, 3)])
        self.assertEqual(self.check(system, random.Random(11)), expected)

    def test_along_drawn_courses(self):
        chance = random.Random(12)
        for system in some_systems(chance):
            self.check(system, chance)

    def test_all_states_are_come_to(self):
        chance = random.Random(13)
        cart = System([row_of(1, 1), row_of(0, 1)], [row_of(0, 1)], [])
        self.assertEqual(self.check(cart, chance), ([], []))
        self.assertEqual(self.check(System([], [[], []], []), chance), ([], []))
        self.assertEqual(self.check(System(unit_grid(4), unit_grid(4), []), chance), ([], []))

    def test_without_puts_all_goes_its_own_way(self):
        chance = random.Random(14)
        move = some_grid(chance, 5, 5, 1000)
        self.assertEqual(self.check(System(move, [], []), chance), (unit_grid(5), move))

    def test_the_greatest_numbers(self):
        chance = random.Random(15)
        still = System(some_grid(chance, 8, 8, 10 ** 6), [row_of(*[0] * 8)], [])
        self.assertEqual(len(self.check(still, chance)[0]), 8)
        self.check(bound_system(chance, 6, 2, 0, 3, 1000), chance)


if __name__ == "__main__":
    unittest.main()
