import random
import unittest
from fractions import Fraction

from helmsum.courses import course
from helmsum.costs import Costs
from helmsum.rows import row_minus, row_plus, unit_row
from helmsum.systems import System

from helping import (
    added_up, check_grid, check_number, check_row, dot, lists_in, plain, row_as, row_of, some_grid, some_row,
    some_system, some_systems, some_weights, told, told_as, value,
)


def square(weights, row):
    """The sum of each weight times the number times the number, reckoned with fractions."""
    return sum((value(weight) * value(number) ** 2 for weight, number in zip(weights, row, strict=True)), Fraction(0))


def bent(grid, row):
    """The dot of the row with the grid on it, reckoned with fractions."""
    return dot(row, row_as([dot(line, row) for line in grid]))


def weights_from_nought(chance, many, most):
    return [told_as(abs(value(number))) for number in some_row(chance, many, most)]


class Checked:
    """A Costs, and beside it what it was made of."""

    def __init__(self, system, state_weights, put_weights, last_weights):
        self.system = system
        self.weights = [state_weights, put_weights, last_weights]
        self.costs = Costs(system, state_weights, put_weights, last_weights)

    def cost(self, start, puts):
        """The cost, reckoned with fractions."""
        states = course(self.system, start, puts)
        total = square(self.weights[2], states[-1])
        for state, row in zip(states, puts):
            total += square(self.weights[0], state) + square(self.weights[1], row)
        return total


def some_costs(chance, system, most):
    return Checked(
        system, weights_from_nought(chance, system.states, most), some_weights(chance, system.ins, most),
        weights_from_nought(chance, system.states, most),
    )


def all_sorts(seed):
    chance = random.Random(seed)
    return [some_costs(chance, system, 9) for system in some_systems(chance)]


class Cost(unittest.TestCase):
    def test_by_hand(self):
        costs = Costs(System([row_of(1)], [row_of(1)], []), row_of(2), row_of(3), row_of(5))
        self.assertEqual(told(self, costs.cost, row_of(4), []), (80, 1))
        self.assertEqual(told(self, costs.cost, row_of(4), [row_of(-1)]), (32 + 3 + 45, 1))
        self.assertEqual(told(self, costs.cost, row_of(4), [row_of(-1), [(1, 2)]]), told_as(
            32 + 3 + 18 + Fraction(3, 4) + 5 * Fraction(7, 2) ** 2))

    def test_of_no_rows_to_eight(self):
        chance = random.Random(1)
        for made in all_sorts(2):
            for many in range(9):
                start = some_row(chance, made.system.states, 20)
                puts = some_grid(chance, many, made.system.ins, 20)
                answer = told(self, made.costs.cost, start, puts)
                check_number(self, answer)
                self.assertEqual(value(answer), made.cost(start, puts))


class Worth(unittest.TestCase):
    def check(self, made, left, chance):
        many = made.system.states
        grid = told(self, made.costs.worth, left)
        check_grid(self, grid, many, many)
        self.assertEqual(grid, [[line[place] for line in grid] for place in range(many)])
        start = some_row(chance, many, 9)
        told_cost, puts = told(self, made.costs.best, start, left)
        check_number(self, told_cost)
        check_grid(self, puts, left, made.system.ins)
        self.assertEqual(value(told_cost), bent(grid, start))
        self.assertEqual(made.cost(start, puts), value(told_cost))
        for state, row, behind in zip(course(made.system, start, puts), puts, reversed(range(left))):
            answer = told(self, made.costs.due, state, behind + 1)
            check_row(self, answer, made.system.ins)
            self.assertEqual(answer, row)
        return grid

    def test_by_hand(self):
        made = Checked(System([row_of(1)], [row_of(1)], []), row_of(1), row_of(1), row_of(1))
        chance = random.Random(3)
        worths = [self.check(made, left, chance) for left in range(4)]
        self.assertEqual(worths, [[[(1, 1)]], [[(3, 2)]], [[(8, 5)]], [[(21, 13)]]])
        self.assertEqual(made.costs.due(row_of(2), 1), row_of(-1))
        self.assertEqual(made.costs.due(row_of(5), 2), row_of(-3))
        self.assertEqual(made.costs.best(row_of(5), 2), ((40, 1), [row_of(-3), row_of(-1)]))

    def test_of_no_rows_to_eight(self):
        chance = random.Random(4)
        for made in all_sorts(5):
            for left in range(9):
                self.check(made, left, chance)

    def test_no_rows_left(self):
        for made in all_sorts(6):
            many = made.system.states
            last = made.weights[2]
            expected = [[last[i] if i == j else (0, 1) for j in range(many)] for i in range(many)]
            self.assertEqual(told(self, made.costs.worth, 0), expected)
            start = row_of(*range(1, many + 1))
            self.assertEqual(told(self, made.costs.best, start, 0), (told_as(square(last, start)), []))

    def test_state_weights_and_last_weights_of_nought(self):
        chance = random.Random(7)
        for system in some_systems(chance):
            noughts = row_of(*[0] * system.states)
            put_weights = some_weights(chance, system.ins, 9)
            some = weights_from_nought(chance, system.states, 9)
            for state_weights, last_weights in [(noughts, some), (some, noughts), (noughts, noughts)]:
                made = Checked(system, state_weights, put_weights, last_weights)
                for left in [0, 1, 3, 8]:
                    grid = self.check(made, left, chance)
                    if state_weights == last_weights == noughts:
                        self.assertEqual(grid, [noughts] * system.states)
                        start = some_row(chance, system.states, 9)
                        self.assertEqual(made.costs.best(start, left), ((0, 1), [row_of(*[0] * system.ins)] * left))

    def test_without_puts(self):
        chance = random.Random(8)
        made = some_costs(chance, some_system(chance, 3, 0, 1, 3), 9)
        for left in range(9):
            self.check(made, left, chance)
            start = some_row(chance, 3, 9)
            self.assertEqual(made.costs.best(start, left)[1], [[]] * left)
            if left:
                self.assertEqual(made.costs.due(start, left), [])

    def test_without_numbers_in_the_state(self):
        made = Checked(System([], [[], []], []), [], [(1, 2), (3, 1)], [])
        for left in range(9):
            self.assertEqual(self.check(made, left, random.Random(9)), [])
            self.assertEqual(made.costs.best([], left), ((0, 1), [row_of(0, 0)] * left))

    def test_the_greatest_numbers(self):
        chance = random.Random(10)
        for sizes, left in [((8, 4, 0), 2), ((4, 2, 0), 4), ((3, 1, 0), 8)]:
            made = some_costs(chance, some_system(chance, *sizes, 10 ** 6), 1000)
            self.check(made, left, chance)


class CheapestOfAll(unittest.TestCase):
    def test_the_cost_of_any_puts_is_the_least_and_the_squares_of_how_far_each_is_from_the_due_one(self):
        chance = random.Random(11)
        for made in all_sorts(12):
            system = made.system
            for many in range(9):
                start = some_row(chance, system.states, 9)
                puts = some_grid(chance, many, system.ins, 9)
                total = bent(made.costs.worth(many), start)
                for time, row in enumerate(puts):
                    state = course(system, start, puts)[time]
                    far = row_minus(row, made.costs.due(state, many - time))
                    adds = added_up(system.put, far, system.states)
                    total += square(made.weights[1], far) + bent(made.costs.worth(many - time - 1), adds)
                self.assertEqual(value(made.costs.cost(start, puts)), total)

    def test_no_put_changed_by_itself_costs_less(self):
        chance = random.Random(13)
        for made in all_sorts(14):
            start = some_row(chance, made.system.states, 9)
            for many in [1, 3, 8]:
                least, puts = made.costs.best(start, many)
                for time in range(many):
                    for at in range(made.system.ins):
                        for by in [(1, 1000), (-1, 1000)]:
                            step = [told_as(value(by) * value(unit)) for unit in unit_row(made.system.ins, at)]
                            other = puts[:time] + [row_plus(puts[time], step)] + puts[time + 1:]
                            self.assertGreater(made.cost(start, other), value(least))


class Kept(unittest.TestCase):
    def asked(self, costs, orders):
        """All that a Costs of two numbers and one put tells, asked in this order."""
        answers = {}
        for left in orders:
            answers[left] = plain([costs.worth(left), costs.best(row_of(3, -1), left)])
            if left:
                answers[left].append(costs.due(row_of(2, 5), left))
        return answers

    def parts(self):
        system = System([row_of(1, 1), row_of(0, 1)], [row_of(0, 1)], [])
        return system, [(1, 2), (3, 1)], [(2, 3)], [(5, 1), (0, 1)]

    def test_what_was_handed_in_may_be_changed_behind(self):
        parts = self.parts()
        costs = Costs(*parts)
        for found in lists_in(parts[1:]):
            found.reverse()
            found.append("spoilt")
        self.assertEqual(self.asked(costs, range(9)), self.asked(Costs(*self.parts()), range(9)))
        self.assertEqual(costs.cost(row_of(3, -1), [row_of(1)]), Costs(*self.parts()).cost(row_of(3, -1), [row_of(1)]))

    def test_nothing_that_was_handed_in_is_changed(self):
        parts = self.parts()
        before = plain(parts)
        self.asked(Costs(*parts), range(9))
        self.assertEqual(plain(parts), before)

    def test_the_order_of_asking_changes_nothing(self):
        expected = self.asked(Costs(*self.parts()), range(9))
        self.assertEqual(self.asked(Costs(*self.parts()), reversed(range(9))), expected)
        self.assertEqual(self.asked(Costs(*self.parts()), [4, 8, 4, 0, 7, 1, 2, 3, 5, 6]), expected)

    def test_told_lists_may_be_changed(self):
        costs = Costs(*self.parts())
        kept = self.asked(costs, range(9))
        for left in range(9):
            for found in lists_in([costs.worth(left), costs.best(row_of(3, -1), left)]):
                found.clear()
        self.assertEqual(self.asked(costs, range(9)), kept)

    def test_one_list_for_all_weights(self):
        row = row_of(1, 2)
        system = System([row_of(1, 1), row_of(0, 1)], [row_of(0, 1), row_of(1, 0)], [])
        one = Costs(system, row, row, row)
        row.clear()
        other = Costs(system, row_of(1, 2), row_of(1, 2), row_of(1, 2))
        self.assertEqual(one.worth(3), other.worth(3))
        self.assertEqual(one.cost(row_of(1, 1), [row_of(1, 1)]), other.cost(row_of(1, 1), [row_of(1, 1)]))


if __name__ == "__main__":
    unittest.main()
