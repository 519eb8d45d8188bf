import random
import unittest

from helmsum.bases import in_basis, seen_first, steered_first
from helmsum.courses import course, looks_along
from helmsum.equations import inverse
from helmsum.errors import NoFit, SumError
from helmsum.grids import unit_grid
from helmsum.reach import reach_rows
from helmsum.systems import System
from helmsum.unseen import unseen_rows

from helping import (
    PARTED, added_up, all_sorts, check_grid, fields, parted_system, plain, row_of, some_basis, some_grid, some_row,
    some_system, told,
)

CART = System([row_of(1, 1), row_of(0, 1)], [row_of(0, 1)], [row_of(1, 0)])


def units(places, wide):
    return [row_of(*[int(at == place) for at in range(wide)]) for place in places]


def leads(rows):
    return [[number != (0, 1) for number in row].index(True) for row in rows]


class InBasis(unittest.TestCase):
    def check(self, system, rows, chance):
        answer = told(self, in_basis, system, rows)
        self.assertEqual(fields(answer)[3:], fields(system)[3:])
        numbers = some_row(chance, system.states, 9)
        puts = some_grid(chance, 6, system.ins, 9)
        start = added_up(rows, numbers, system.states)
        along = course(answer, numbers, puts)
        self.assertEqual([added_up(rows, state, system.states) for state in along], course(system, start, puts))
        self.assertEqual(looks_along(answer, numbers, puts), looks_along(system, start, puts))
        return answer

    def test_by_hand(self):
        chance = random.Random(1)
        answer = self.check(CART, [row_of(1, 1), row_of(0, 2)], chance)
        # From 1 of the first row, the state (1, 1), comes (2, 1): 2 of the first and less than nought by 1/2.
        self.assertEqual(answer.move, [row_of(2, 2), [(-1, 2), (0, 1)]])
        self.assertEqual(answer.put, [[(0, 1), (1, 2)]])
        self.assertEqual(answer.look, [row_of(1, 0)])
        swapped = self.check(CART, [row_of(0, 1), row_of(1, 0)], chance)
        self.assertEqual(fields(swapped)[:3], [[row_of(1, 0), row_of(1, 1)], [row_of(1, 0)], [row_of(0, 1)]])

    def test_along_drawn_courses(self):
        chance = random.Random(2)
        for system in all_sorts(3):
            self.check(system, some_basis(chance, system.states), chance)

    def test_rows_of_fractions(self):
        chance = random.Random(4)
        for states in range(1, 9):
            rows = some_grid(chance, states, states, 1000)
            if inverse(rows) is not None:
                self.check(some_system(chance, states, 2, 2, 1000), rows, chance)

    def test_told_again_by_the_inverse_rows(self):
        chance = random.Random(5)
        for system in all_sorts(6):
            rows = some_basis(chance, system.states)
            there = in_basis(system, rows)
            self.assertEqual(fields(self.check(there, inverse(rows), chance)), fields(system))

    def test_the_unit_rows_change_nothing(self):
        for system in all_sorts(7):
            self.assertEqual(fields(told(self, in_basis, system, unit_grid(system.states))), fields(system))

    def test_rows_that_do_not_span_all_states(self):
        chance = random.Random(8)
        for states in range(1, 9):
            system = some_system(chance, states, 1, 1, 9)
            rows = some_basis(chance, states)
            last = added_up(rows[:-1], some_row(chance, states - 1, 9), states)
            wrong = [rows[:-1] + [last], [last] + rows[:-1], rows[1:] + [row_of(*[0] * states)]]
            wrong.append([row_of(*[0] * states) for row in rows])
            for each in wrong:
                before = plain([system, each])
                for turn in range(2):
                    with self.assertRaises(NoFit) as caught:
                        in_basis(system, each)
                    self.assertIs(type(caught.exception).__base__, SumError)
                self.assertEqual(plain([system, each]), before)
            self.check(system, rows, chance)

    def test_without_numbers_in_the_state(self):
        for ins in range(5):
            for outs in range(5):
                system = System([], [[]] * ins, [[]] * outs)
                self.assertEqual(fields(self.check(system, [], random.Random(9))), fields(system))

    def test_the_rows_may_be_changed_behind_the_call(self):
        rows = [row_of(1, 1), row_of(0, 2)]
        answer = in_basis(CART, rows)
        kept = plain(answer)
        rows[0][0] = (7, 1)
        rows.clear()
        self.assertEqual(plain(answer), kept)

    def test_the_greatest_numbers(self):
        chance = random.Random(10)
        self.check(some_system(chance, 8, 4, 4, 10 ** 6), some_basis(chance, 8), chance)
        self.check(some_system(chance, 4, 1, 1, 10 ** 6), some_grid(chance, 4, 4, 1000), chance)


def rows_and_many(case, function, system):
    """What the function tells: as many rows as the state has numbers, and how many of them are first."""
    answer = told(case, function, system)
    case.assertIs(type(answer), tuple)
    case.assertEqual(len(answer), 2)
    check_grid(case, answer[0], system.states, system.states)
    case.assertIs(type(answer[1]), int)
    return answer


def check_all_sorts(case, check, seed):
    """That the check holds of all sorts of systems, with all of the rows first, some and none."""
    found = set()
    for system in all_sorts(seed):
        many = check(system)[1]
        found.add((many > 0, many < system.states))
    case.assertEqual(found, {(True, True), (True, False), (False, True), (False, False)})


class SteeredFirst(unittest.TestCase):
    def check(self, system):
        answer = rows_and_many(self, steered_first, system)
        rows, many = answer
        wide = system.states
        reach = reach_rows(system, wide)
        free = [place for place in range(wide) if place not in leads(reach)]
        self.assertEqual(rows, reach + units(free, wide))
        self.assertEqual(many, len(reach))
        told_so = in_basis(system, rows)
        for row in told_so.move[many:]:
            self.assertEqual(row[:many], row_of(*[0] * many))
        for row in told_so.put:
            self.assertEqual(row[many:], row_of(*[0] * (wide - many)))
        return answer

    def test_by_hand(self):
        system = System([row_of(1, 0, 0), row_of(0, 2, 0), row_of(0, 2, 1)], [row_of(2, 0, 4)], [])
        expected = ([row_of(1, 0, 2), row_of(0, 1, 0), row_of(0, 0, 1)], 1)
        self.assertEqual(self.check(system), expected)
        late = System([row_of(3, 0), row_of(0, 1)], [row_of(0, 5)], [])
        self.assertEqual(self.check(late), ([row_of(0, 1), row_of(1, 0)], 1))

    def test_all_sorts(self):
        check_all_sorts(self, self.check, 11)

    def test_all_reached(self):
        self.assertEqual(self.check(CART), (unit_grid(2), 2))
        self.assertEqual(self.check(some_system(random.Random(12), 8, 1, 0, 9)), (unit_grid(8), 8))

    def test_none_reached(self):
        move = some_grid(random.Random(13), 4, 4, 9)
        self.assertEqual(self.check(System(move, [], [])), (unit_grid(4), 0))
        self.assertEqual(self.check(System(move, [row_of(0, 0, 0, 0)] * 2, [])), (unit_grid(4), 0))

    def test_without_numbers_in_the_state(self):
        for ins in range(5):
            self.assertEqual(self.check(System([], [[]] * ins, [])), ([], 0))

    def test_the_others_go_their_own_way(self):
        chance = random.Random(14)
        for sizes, ins, outs in PARTED:
            system = parted_system(chance, sizes, ins, outs, 3)
            rows, many = steered_first(system)
            told_so = in_basis(system, rows)
            last = some_row(chance, system.states - many, 9)
            runs = []
            for turn in range(2):
                start = some_row(chance, many, 9) + last
                states = course(told_so, start, some_grid(chance, 5, ins, 9))
                runs.append([state[many:] for state in states])
            self.assertEqual(runs[0], runs[1])


class SeenFirst(unittest.TestCase):
    def check(self, system):
        answer = rows_and_many(self, seen_first, system)
        rows, many = answer
        wide = system.states
        unseen = unseen_rows(system, wide)
        free = [place for place in range(wide) if place not in leads(unseen)]
        self.assertEqual(rows, units(free, wide) + unseen)
        self.assertEqual(many, wide - len(unseen))
        told_so = in_basis(system, rows)
        for row in told_so.move[:many] + told_so.look:
            self.assertEqual(row[many:], row_of(*[0] * (wide - many)))
        return answer

    def test_by_hand(self):
        system = System([row_of(1, 0, 0), row_of(0, 2, 0), row_of(0, 0, 1)], [], [row_of(-2, 0, 1)])
        expected = ([row_of(0, 0, 1), row_of(1, 0, 2), row_of(0, 1, 0)], 1)
        self.assertEqual(self.check(system), expected)

    def test_all_sorts(self):
        check_all_sorts(self, self.check, 15)

    def test_all_seen(self):
        self.assertEqual(self.check(CART), (unit_grid(2), 2))
        self.assertEqual(self.check(some_system(random.Random(16), 8, 0, 1, 9)), (unit_grid(8), 8))

    def test_none_seen(self):
        move = some_grid(random.Random(17), 4, 4, 9)
        self.assertEqual(self.check(System(move, [], [])), (unit_grid(4), 0))
        self.assertEqual(self.check(System(move, [], [row_of(0, 0, 0, 0)] * 2)), (unit_grid(4), 0))

    def test_without_numbers_in_the_state(self):
        for outs in range(5):
            self.assertEqual(self.check(System([], [], [[]] * outs)), ([], 0))

    def test_the_others_are_never_seen(self):
        chance = random.Random(18)
        for sizes, ins, outs in PARTED:
            system = parted_system(chance, sizes, ins, outs, 3)
            rows, many = seen_first(system)
            told_so = in_basis(system, rows)
            first = some_row(chance, many, 9)
            puts = some_grid(chance, 5, ins, 9)
            starts = [first + some_row(chance, system.states - many, 9) for turn in range(2)]
            firsts = [[state[:many] for state in course(told_so, start, puts)] for start in starts]
            self.assertEqual(firsts[0], firsts[1])
            self.assertEqual(looks_along(told_so, starts[0], puts), looks_along(told_so, starts[1], puts))


if __name__ == "__main__":
    unittest.main()
