import random
import unittest
from fractions import Fraction

from helmsum.courses import course, looks_along
from helmsum.grids import unit_grid
from helmsum.rows import row_dot, row_plus
from helmsum.shut import unsteered
from helmsum.systems import System
from helmsum.wishes import closed, own_wish

from helping import (
    BOUND, all_sorts, bound_system, check_grid, check_keeps, check_row, dot, fields, plain, row_as, row_of, some_grid,
    some_row, some_system, told, value, values,
)


def wish_by_the_document(system):
    """The row as the document's own steps make it, reckoned with fractions."""
    many = system.states
    move = [values(row) for row in system.move]
    grid = [[Fraction(0)] * many for row in range(many)]
    last = Fraction(1)
    made = []
    for turn in range(1, many + 1):
        grid = product(move, grid)
        for place in range(many):
            grid[place][place] += last
        moved = product(move, grid)
        last = -sum((moved[place][place] for place in range(many)), Fraction(0)) / turn
        made.append(last)
    return row_as([-each for each in reversed(made)])


def product(one, other):
    return [[sum(mine * line[place] for mine, line in zip(row, other)) for place in range(len(other))] for row in one]


class Closed(unittest.TestCase):
    def check(self, system, rows, chance):
        answer = told(self, closed, system, rows)
        check_grid(self, answer.move, system.states, system.states)
        self.assertEqual(fields(answer)[1:], fields(system)[1:])
        for turn in range(3):
            state = some_row(chance, system.states, 9)
            puts = some_row(chance, system.ins, 9)
            own = [row_dot(row, state) for row in rows]
            self.assertEqual(answer.moved(state, puts), system.moved(state, row_plus(puts, own)))
        return answer

    def test_by_hand(self):
        cart = System([row_of(1, 1), row_of(0, 1)], [row_of(0, 1)], [row_of(1, 0)])
        answer = self.check(cart, [row_of(-1, -2)], random.Random(1))
        self.assertEqual(fields(answer)[:3], [[row_of(1, 1), row_of(-1, -1)], [row_of(0, 1)], [row_of(1, 0)]])
        two = System([row_of(0, 0), row_of(0, 0)], [row_of(1, 0), row_of(1, 2)], [])
        answer = self.check(two, [row_of(5, 0), row_of(0, 7)], random.Random(1))
        self.assertEqual(answer.move, [row_of(5, 7), row_of(0, 14)])

    def test_drawn_rows(self):
        chance = random.Random(2)
        for system in all_sorts(3):
            self.check(system, some_grid(chance, system.ins, system.states, 9), chance)

    def test_rows_of_noughts_change_nothing(self):
        for system in all_sorts(4):
            rows = [row_of(*[0] * system.states)] * system.ins
            self.assertEqual(fields(closed(system, rows)), fields(system))

    def test_along_courses(self):
        chance = random.Random(5)
        for system in all_sorts(6):
            rows = some_grid(chance, system.ins, system.states, 3)
            answer = closed(system, rows)
            start = some_row(chance, system.states, 9)
            more = some_grid(chance, 5, system.ins, 9)
            states = course(answer, start, more)
            puts = [row_plus([row_dot(row, state) for row in rows], each) for state, each in zip(states, more)]
            self.assertEqual(course(system, start, puts), states)
            self.assertEqual(looks_along(system, start, puts), looks_along(answer, start, more))

    def test_what_can_not_be_steered_goes_its_own_way_in_it_too(self):
        chance = random.Random(7)
        for states, ins, steered in BOUND:
            system = bound_system(chance, states, ins, 1, steered, 3)
            own = unsteered(system)
            self.assertGreater(len(own[0]), 0)
            for turn in range(3):
                answer = closed(system, some_grid(chance, ins, states, 9))
                self.assertEqual(unsteered(answer), own)
                along = course(answer, some_row(chance, states, 9), some_grid(chance, 4, ins, 9))
                for state, following in zip(along, along[1:]):
                    dots = [dot(row, state) for row in own[0]]
                    for row, weights in zip(*own):
                        moved = sum(value(weight) * each for weight, each in zip(weights, dots))
                        self.assertEqual(dot(row, following), moved)

    def test_without_puts_and_without_numbers(self):
        chance = random.Random(8)
        still = some_system(chance, 4, 0, 2, 9)
        self.assertEqual(fields(self.check(still, [], chance)), fields(still))
        for ins in range(5):
            empty = System([], [[]] * ins, [[]])
            self.assertEqual(fields(self.check(empty, [[]] * ins, chance)), fields(empty))

    def test_the_rows_may_be_changed_behind_the_call(self):
        system = some_system(random.Random(9), 3, 2, 1, 9)
        rows = some_grid(random.Random(10), 2, 3, 9)
        answer = closed(system, rows)
        kept = plain(answer)
        rows[0][0] = (99, 1)
        rows.clear()
        self.assertEqual(plain(answer), kept)

    def test_the_greatest_numbers(self):
        chance = random.Random(11)
        self.check(some_system(chance, 8, 4, 4, 10 ** 6), some_grid(chance, 4, 8, 1000), chance)


class OwnWish(unittest.TestCase):
    def check(self, system, chance):
        answer = told(self, own_wish, system)
        check_row(self, answer, system.states)
        self.assertEqual(answer, wish_by_the_document(system))
        check_keeps(self, system, answer, some_row(chance, system.states, 9), 3)
        return answer

    def test_by_hand(self):
        chance = random.Random(12)
        cart = System([row_of(1, 1), row_of(0, 1)], [row_of(0, 1)], [])
        # Behind two steps the cart is where two of the state a step on, less the state, is.
        self.assertEqual(self.check(cart, chance), row_of(-1, 2))
        fold = System([row_of(0, 1), row_of(1, 1)], [], [])
        self.assertEqual(self.check(fold, chance), row_of(1, 1))
        turn = System([row_of(0, 0, 1), row_of(1, 0, 0), row_of(0, 1, 0)], [], [])
        self.assertEqual(self.check(turn, chance), row_of(1, 0, 0))
        halves = System([[(1, 2), (0, 1)], [(5, 1), (1, 3)]], [], [])
        self.assertEqual(self.check(halves, chance), [(-1, 6), (5, 6)])

    def test_all_sorts(self):
        chance = random.Random(13)
        for system in all_sorts(14):
            self.check(system, chance)

    def test_each_course_keeps_it(self):
        chance = random.Random(15)
        for states in range(1, 9):
            system = some_system(chance, states, 1, 1, 20)
            wish = own_wish(system)
            for start in unit_grid(states) + some_grid(chance, 2, states, 1000):
                check_keeps(self, system, wish, start, 2)

    def test_one_number_and_none(self):
        chance = random.Random(16)
        self.assertEqual(self.check(System([], [[], []], [[]]), chance), [])
        for number in [(0, 1), (1, 1), (-7, 3), (10 ** 6, 999999)]:
            self.assertEqual(self.check(System([[number]], [], []), chance), [number])

    def test_noughts_and_units(self):
        chance = random.Random(17)
        for states in range(1, 9):
            noughts = System([row_of(*[0] * states)] * states, [], [])
            self.assertEqual(self.check(noughts, chance), row_of(*[0] * states))
        self.assertEqual(self.check(System(unit_grid(3), [], []), chance), row_of(1, -3, 3))

    def test_it_goes_by_the_move_alone(self):
        chance = random.Random(18)
        system = some_system(chance, 5, 2, 3, 9)
        self.assertEqual(own_wish(System(system.move, [], [])), own_wish(system))

    def test_the_greatest_numbers(self):
        chance = random.Random(19)
        self.check(some_system(chance, 8, 1, 1, 10 ** 6), chance)


if __name__ == "__main__":
    unittest.main()
