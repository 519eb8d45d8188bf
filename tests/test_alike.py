import random
import unittest
from math import comb

from helmsum.alike import apart, bridge, size_paper
from helmsum.bases import in_basis
from helmsum.courses import course, looks_along, pulses
from helmsum.equations import inverse
from helmsum.errors import NoFit, SumError
from helmsum.grids import grid_on, grid_times, unit_grid
from helmsum.joins import added, beside, in_row, ringed
from helmsum.parts import smallest
from helmsum.systems import System

from helping import (
    all_sorts, check_grid, check_same_looks, parted_system, row_of, some_basis, some_grid, some_row, some_system, told,
)


def unlike_pulses(one, other, steps):
    """All (time, look, put) at which the pulses are unlike, in order."""
    pairs = list(zip(pulses(one, steps), pulses(other, steps), strict=True))
    return [
        (time, look, put) for time, (mine, yours) in enumerate(pairs) for look in range(one.outs)
        for put in range(one.ins) if mine[look][put] != yours[look][put]
    ]


def with_pulses(wish, first):
    """A System whose first pulses are these whole numbers, as many as it has numbers, and whose later ones keep the
    wish."""
    many = len(first)
    move = [row_of(*[int(at == place - 1) for at in range(many - 1)], wish[place]) for place in range(many)]
    return System(move, [row_of(1, *[0] * (many - 1))], [row_of(*first)])


def changed(chance, system):
    """The system with one number more at a drawn place of its move, put or look."""
    parts = [[list(row) for row in rows] for rows in [system.move, system.put, system.look]]
    rows = chance.choice([rows for rows in parts if rows])
    row = chance.choice(rows)
    place = chance.randrange(len(row))
    row[place] = (row[place][0] + row[place][1], row[place][1])
    return System(*parts)


class Apart(unittest.TestCase):
    def check(self, one, other):
        answer = told(self, apart, one, other)
        self.assertEqual(told(self, apart, other, one), answer)
        unlike = unlike_pulses(one, other, 16)
        self.assertEqual(answer, unlike[0] if unlike else None)
        if answer is not None:
            self.assertIs(type(answer), tuple)
            self.assertEqual([type(part) for part in answer], [int, int, int])
        return answer

    def test_by_hand(self):
        one = System([row_of(1, 1), row_of(0, 1)], [row_of(0, 1)], [row_of(1, 0)])
        self.assertIsNone(self.check(one, one))
        self.assertEqual(self.check(one, System([row_of(2, 1), row_of(0, 1)], one.put, one.look)), (2, 0, 0))
        self.assertEqual(self.check(one, System(one.move, [row_of(0, 2)], one.look)), (1, 0, 0))
        self.assertEqual(self.check(one, System(one.move, one.put, [row_of(1, 1)])), (0, 0, 0))

    def test_the_first_by_time_then_look_then_put(self):
        zero = System([], [[]] * 3, [[]] * 3)
        grid = [row_of(0, 0, 0), row_of(0, 0, 5), row_of(7, 1, 0)]
        at_once = System([row_of(0, 0, 0)] * 3, unit_grid(3), grid)
        self.assertEqual(self.check(zero, at_once), (0, 1, 2))
        # What is unlike at time 0 goes ahead of all that is so later, whatever the look.
        move = [row_of(*[0] * 6)] * 3 + [row_of(*[int(at == place) for at in range(6)]) for place in range(3)]
        put = [row_of(*[int(at == place) for at in range(6)]) for place in range(3)]
        look = [row_of(0, 0, 0, 1, 1, 1), row_of(0, 0, 0, 0, 0, 0), row_of(0, 0, 2, 1, 1, 1)]
        self.assertEqual(self.check(zero, System(move, put, look)), (0, 2, 2))
        later = [row_of(0, 0, 0, 0, 1, 1), row_of(0, 0, 0, 0, 0, 0), row_of(0, 0, 0, 1, 1, 1)]
        self.assertEqual(self.check(zero, System(move, put, later)), (1, 0, 1))

    def test_alike_ones_with_unlike_numbers(self):
        chance = random.Random(1)
        for system in all_sorts(2):
            self.assertIsNone(self.check(system, system))
            self.assertIsNone(self.check(system, smallest(system)))
            self.assertIsNone(self.check(system, in_basis(system, some_basis(chance, system.states))))

    def test_drawn_changes(self):
        chance = random.Random(3)
        found = set()
        for system in all_sorts(4) * 3:
            if system.states > 0:
                answer = self.check(system, changed(chance, system))
                found.add(None if answer is None else answer[0])
        self.assertLessEqual({None, 0, 1, 2}, found)

    def test_unlike_only_at_the_last_time_that_counts(self):
        for many in range(1, 9):
            for other_many in range(1, 9):
                # The one's pulses end, the other's are a sum of powers of the time that is 0 as long as it can be.
                most = max(many, other_many)
                few = min(many, other_many)
                first = []
                for time in range(most):
                    worth = 1
                    for nought in range(few - 1):
                        worth = worth * (time - most - nought)
                    first.append(worth)
                ending = with_pulses([0] * most, first)
                power = with_pulses([-comb(few, at) * (-1) ** (few - at) for at in range(few)], first[:few])
                self.assertEqual(self.check(ending, power), (many + other_many - 1, 0, 0))

    def test_no_fit(self):
        systems = [System([], [[]] * ins, [[]] * outs) for ins in range(5) for outs in range(5)]
        systems += [some_system(random.Random(5), 2, ins, outs, 3) for ins in range(5) for outs in range(5)]
        for one in systems:
            for other in systems:
                if (one.ins, one.outs) == (other.ins, other.outs):
                    self.check(one, other)
                else:
                    with self.assertRaises(NoFit) as caught:
                        apart(one, other)
                    self.assertIs(type(caught.exception).__base__, SumError)

    def test_without_puts_and_without_looks(self):
        chance = random.Random(6)
        for many in range(5):
            self.assertIsNone(self.check(some_system(chance, 3, 0, many, 9), some_system(chance, 5, 0, many, 9)))
            self.assertIsNone(self.check(some_system(chance, 3, many, 0, 9), some_system(chance, 0, many, 0, 9)))

    def test_what_is_put_together_of_alike_ones_is_alike(self):
        chance = random.Random(7)
        for turn in range(5):
            one = parted_system(chance, (1, 1, 1, 1), 1, 1, 3)
            other = parted_system(chance, (0, 2, 1, 0), 1, 1, 3)
            for join in [in_row, beside, added, ringed]:
                joined_small = join(smallest(one), smallest(other))
                self.assertIsNone(self.check(join(one, other), joined_small))
                check_same_looks(self, join(one, other), joined_small, chance)

    def test_the_greatest_numbers(self):
        chance = random.Random(8)
        system = some_system(chance, 8, 2, 2, 10 ** 6)
        self.assertIsNone(apart(system, in_basis(system, some_basis(chance, 8))))
        self.assertIsNotNone(apart(system, some_system(chance, 8, 2, 2, 10 ** 6)))


class SizePaper(unittest.TestCase):
    def check(self, system):
        answer = told(self, size_paper, system)
        self.assertIs(type(answer), tuple)
        self.assertEqual(len(answer), 3)
        rows, columns, grid = answer
        many = smallest(system).states
        for places, most in [(rows, system.outs), (columns, system.ins)]:
            self.assertIs(type(places), list)
            self.assertEqual(len(places), many)
            for place in places:
                self.assertIs(type(place), tuple)
                self.assertEqual([type(part) for part in place], [int, int])
                self.assertIn(place[0], range(system.states))
                self.assertIn(place[1], range(most))
        check_grid(self, grid, many, many)
        known = pulses(system, 2 * system.states)
        numbers = [[known[time + later][look][put] for later, put in columns] for time, look in rows]
        self.assertEqual(grid_times(grid, numbers, many), unit_grid(many))
        self.assertEqual(grid, inverse(numbers))
        return answer

    def test_by_hand(self):
        cart = System([row_of(1, 1), row_of(0, 1)], [row_of(0, 1)], [row_of(1, 0)])
        # The pulses are 0, 1, 2, ..
        expected = ([(0, 0), (1, 0)], [(0, 0), (1, 0)], [row_of(-2, 1), row_of(1, 0)])
        self.assertEqual(self.check(cart), expected)

    def test_all_sorts(self):
        sizes = {len(self.check(system)[0]) for system in all_sorts(9)}
        self.assertLessEqual({0, 1, 2, 3, 8}, sizes)

    def test_none_of_them(self):
        for system in [System([], [[]], [[]]), System([], [], []), System(unit_grid(3), [row_of(1, 2, 3)], [])]:
            self.assertEqual(self.check(system), ([], [], []))
        self.assertEqual(self.check(System(unit_grid(3), [], [row_of(1, 2, 3)])), ([], [], []))
        crossed = System([row_of(1, 0), row_of(0, 1)], [row_of(1, 0)], [row_of(0, 1)])
        self.assertEqual(self.check(crossed), ([], [], []))

    def test_puts_and_looks_that_tell_nothing_new(self):
        move = [row_of(0, 1, 0), row_of(0, 0, 1), row_of(0, 0, 0)]
        system = System(move, [row_of(0, 0, 0), row_of(0, 0, 1), row_of(0, 0, 2)], [row_of(0, 0, 0), row_of(1, 0, 0)])
        answer = self.check(system)
        self.assertEqual({look for time, look in answer[0]}, {1})

    def test_great_numbers(self):
        chance = random.Random(10)
        self.check(some_system(chance, 5, 1, 1, 10 ** 6))
        self.check(some_system(chance, 8, 2, 2, 1000))
        self.check(parted_system(chance, (1, 3, 1, 1), 1, 1, 1000))


class Bridge(unittest.TestCase):
    def check(self, one, other):
        answer = told(self, bridge, one, other)
        if apart(one, other) is not None:
            self.assertIsNone(answer)
            return None
        wide = one.states
        check_grid(self, answer, other.states, wide)
        self.assertEqual(grid_times(answer, one.move, wide), grid_times(other.move, answer, wide))
        self.assertEqual([grid_on(answer, row) for row in one.put], other.put)
        self.assertEqual(grid_times(other.look, answer, wide), one.look)
        return answer

    def check_alike(self, one, other, chance):
        answer = self.check(one, other)
        start = some_row(chance, one.states, 9)
        puts = some_grid(chance, 5, one.ins, 9)
        along = course(one, start, puts)
        there = grid_on(answer, start)
        self.assertEqual([grid_on(answer, state) for state in along], course(other, there, puts))
        self.assertEqual(looks_along(one, start, puts), looks_along(other, there, puts))
        self.assertEqual(grid_times(self.check(other, one), answer, one.states), unit_grid(one.states))
        return answer

    def smallest_ones(self, seed):
        return [small for small in [smallest(system) for system in all_sorts(seed)] if small.states <= 6]

    def test_by_hand(self):
        one = System([row_of(1, 1), row_of(0, 1)], [row_of(0, 1)], [row_of(1, 0)])
        other = System([row_of(1, 0), row_of(1, 1)], [row_of(2, 0)], [[(0, 1), (1, 2)]])
        self.assertEqual(self.check_alike(one, other, random.Random(11)), [row_of(0, 2), row_of(2, 0)])
        self.assertEqual(self.check_alike(one, one, random.Random(11)), unit_grid(2))

    def test_drawn_alike_ones(self):
        chance = random.Random(12)
        for one in self.smallest_ones(13):
            rows = some_basis(chance, one.states)
            answer = self.check_alike(one, in_basis(one, rows), chance)
            # There is just one: each of the rows is told by a 1 at its place.
            told_as_units = [grid_on(answer, row) for row in rows]
            self.assertEqual(told_as_units, unit_grid(one.states))

    def test_not_alike(self):
        chance = random.Random(14)
        nones = 0
        for one in self.smallest_ones(15):
            for turn in range(2):
                other = smallest(changed(chance, one)) if one.states > 0 else one
                nones += self.check(one, other) is None
                nones += self.check(other, one) is None
        self.assertGreater(nones, 40)

    def test_not_alike_with_as_many_numbers(self):
        one = System([row_of(2)], [row_of(1)], [row_of(1)])
        for other in [([row_of(3)], [row_of(1)], [row_of(1)]), ([row_of(2)], [row_of(2)], [row_of(1)]),
                      ([row_of(2)], [row_of(1)], [[(1, 2)]])]:
            self.assertIsNone(self.check(one, System(*other)))
        self.assertEqual(self.check(one, System([row_of(2)], [row_of(2)], [[(1, 2)]])), [row_of(2)])

    def test_unlike_numbers_in_the_state(self):
        zero = System([], [[]], [[]])
        one = System([row_of(2)], [row_of(1)], [row_of(1)])
        self.assertIsNone(self.check(zero, one))
        self.assertIsNone(self.check(one, zero))

    def test_without_numbers_in_the_state(self):
        for ins in range(5):
            for outs in range(5):
                one = System([], [[]] * ins, [[]] * outs)
                self.assertEqual(self.check(one, System([], [[]] * ins, [[]] * outs)), [])

    def test_great_numbers(self):
        chance = random.Random(16)
        for sizes in [(6, 1, 1), (6, 3, 2)]:
            one = some_system(chance, *sizes, 10 ** 6)
            self.check(one, in_basis(one, some_basis(chance, 6)))
            self.check(one, some_system(chance, *sizes, 10 ** 6))


if __name__ == "__main__":
    unittest.main()
