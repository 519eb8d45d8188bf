import random
import unittest

from helmsum.courses import course, looks_along
from helmsum.errors import NoFit, TooMany
from helmsum.joins import added, beside, in_row, ringed
from helmsum.rows import row_plus
from helmsum.systems import System

from helping import check_grid, fields, lists_in, plain, row_of, some_grid, some_row, some_system, told

GREAT = 10 ** 6
JOINS = [in_row, beside, added, ringed]

# The sizes (states, ins, outs) of the one and of the other for which a join is there.
FITTING = {
    in_row: [
        ((2, 1, 1), (3, 1, 2)), ((4, 4, 3), (4, 3, 4)), ((1, 0, 2), (7, 2, 1)), ((3, 2, 0), (2, 0, 3)),
        ((0, 2, 3), (3, 3, 1)), ((3, 1, 2), (0, 2, 2)), ((0, 0, 0), (0, 0, 0)), ((0, 3, 1), (0, 1, 2)),
        ((2, 2, 1), (1, 1, 0)), ((8, 1, 1), (0, 1, 1)),
    ],
    beside: [
        ((2, 1, 1), (3, 1, 2)), ((4, 2, 3), (4, 2, 1)), ((1, 0, 2), (7, 4, 1)), ((3, 2, 0), (2, 0, 0)),
        ((0, 2, 3), (3, 1, 1)), ((3, 1, 2), (0, 2, 2)), ((0, 0, 0), (0, 0, 0)), ((0, 3, 1), (0, 1, 2)),
        ((8, 0, 4), (0, 4, 0)),
    ],
    added: [
        ((2, 1, 1), (3, 1, 1)), ((4, 4, 4), (4, 4, 4)), ((1, 0, 2), (7, 0, 2)), ((3, 2, 0), (2, 2, 0)),
        ((0, 2, 3), (3, 2, 3)), ((3, 1, 2), (0, 1, 2)), ((0, 0, 0), (0, 0, 0)), ((0, 3, 1), (0, 3, 1)),
        ((2, 0, 0), (3, 0, 0)),
    ],
    ringed: [
        ((2, 1, 1), (3, 1, 1)), ((4, 4, 3), (4, 3, 4)), ((1, 0, 2), (7, 2, 0)), ((3, 2, 0), (2, 0, 2)),
        ((0, 2, 3), (3, 3, 2)), ((3, 1, 2), (0, 2, 1)), ((0, 0, 0), (0, 0, 0)), ((0, 3, 1), (0, 1, 3)),
        ((2, 0, 0), (3, 0, 0)),
    ],
}


def by_themselves(join, systems, states, puts):
    """What both systems do in a step by themselves: (both next states, the looks ahead of the step)."""
    one, other = systems
    looks = [one.seen(states[0]), other.seen(states[1])]
    if join is in_row:
        return [one.moved(states[0], puts), other.moved(states[1], looks[0])], looks[1]
    if join is beside:
        nexts = [one.moved(states[0], puts[:one.ins]), other.moved(states[1], puts[one.ins:])]
        return nexts, looks[0] + looks[1]
    if join is added:
        return [one.moved(states[0], puts), other.moved(states[1], puts)], row_plus(looks[0], looks[1])
    return [one.moved(states[0], row_plus(puts, looks[1])), other.moved(states[1], looks[0])], looks[0]


class StepByStep(unittest.TestCase):
    def check(self, join, one, other, chance, steps):
        both = told(self, join, one, other)
        self.assertIs(type(both), System)
        check_grid(self, both.move, both.states, both.states)
        self.assertEqual(both.states, one.states + other.states)
        self.assertEqual(both.ins, one.ins + other.ins if join is beside else one.ins)
        outs = {in_row: other.outs, beside: one.outs + other.outs, added: one.outs, ringed: one.outs}
        self.assertEqual(both.outs, outs[join])
        states = [some_row(chance, one.states, 50), some_row(chance, other.states, 50)]
        start = states[0] + states[1]
        puts = some_grid(chance, steps, both.ins, 50)
        all_states = course(both, start, puts)
        all_looks = looks_along(both, start, puts)
        for number, row in enumerate(puts):
            self.assertEqual(all_states[number], states[0] + states[1])
            states, looks = by_themselves(join, (one, other), states, row)
            self.assertEqual(all_looks[number], looks)
        self.assertEqual(all_states[-1], states[0] + states[1])
        return both

    def test_all_sizes(self):
        chance = random.Random(1)
        for join in JOINS:
            for sizes in FITTING[join]:
                for most in [3, 50]:
                    one, other = [some_system(chance, *each, most) for each in sizes]
                    with self.subTest(join=join.__name__, sizes=sizes):
                        self.check(join, one, other, chance, 5)

    def test_twelve_steps_and_the_greatest_numbers(self):
        chance = random.Random(2)
        for join in JOINS:
            one, other = [some_system(chance, 2, 2, 2, 9) for turn in range(2)]
            self.check(join, one, other, chance, 12)
            one, other = [some_system(chance, 4, 2, 2, GREAT) for turn in range(2)]
            self.check(join, one, other, chance, 2)

    def test_a_system_with_itself(self):
        chance = random.Random(3)
        for join in JOINS:
            for sizes in [(0, 0, 0), (0, 1, 1), (3, 0, 0), (2, 1, 1), (4, 2, 2)]:
                system = some_system(chance, *sizes, 9)
                self.check(join, system, system, chance, 4)

    def test_joins_of_joins(self):
        chance = random.Random(4)
        one, other, third = [some_system(chance, 2, 1, 1, 5) for turn in range(3)]
        left = self.check(in_row, in_row(one, other), third, chance, 4)
        right = self.check(in_row, one, in_row(other, third), chance, 4)
        self.assertEqual(fields(left), fields(right))
        self.check(ringed, added(one, other), beside(third, System([], [], [])), chance, 4)

    def test_nothing_is_shared_with_what_was_handed_in(self):
        chance = random.Random(5)
        for join in JOINS:
            for sizes in [(0, 1, 1), (4, 2, 2)]:
                one, other = [some_system(chance, *sizes, 9) for turn in range(2)]
                kept = plain([one, other])
                for found in lists_in(join(one, other)):
                    found.append("spoilt")
                self.assertEqual(plain([one, other]), kept)


class ByHand(unittest.TestCase):
    def setUp(self):
        self.one = System([row_of(2)], [row_of(3)], [row_of(5)])
        self.other = System([row_of(7)], [row_of(11)], [row_of(13)])

    def check(self, join, move, put, look):
        both = told(self, join, self.one, self.other)
        self.assertEqual(fields(both), [move, put, look, 2, len(put), len(look)])

    def test_in_row(self):
        self.check(in_row, [row_of(2, 0), row_of(55, 7)], [row_of(3, 0)], [row_of(0, 13)])

    def test_beside(self):
        self.check(beside, [row_of(2, 0), row_of(0, 7)], [row_of(3, 0), row_of(0, 11)], [row_of(5, 0), row_of(0, 13)])

    def test_added(self):
        self.check(added, [row_of(2, 0), row_of(0, 7)], [row_of(3, 11)], [row_of(5, 13)])

    def test_ringed(self):
        self.check(ringed, [row_of(2, 39), row_of(55, 7)], [row_of(3, 0)], [row_of(5, 0)])

    def test_the_looks_are_those_ahead_of_the_step(self):
        both = in_row(self.one, self.other)
        looks = looks_along(both, row_of(0, 0), [row_of(1), row_of(0), row_of(0)])
        self.assertEqual(looks, [row_of(0), row_of(0), row_of(13 * 11 * 15), row_of(13 * (7 * 11 * 15 + 11 * 30))])


class Refusals(unittest.TestCase):
    def setUp(self):
        self.chance = random.Random(6)

    def refuse(self, join, sizes, refusal, most=None):
        systems = [some_system(self.chance, *each, 5) for each in sizes]
        kept = plain(systems)
        with self.subTest(join=join.__name__, sizes=sizes):
            for turn in range(2):
                with self.assertRaises(refusal) as taken:
                    join(*systems)
                self.assertIs(type(taken.exception), refusal)
                if refusal is TooMany:
                    self.assertEqual(taken.exception.most, most)
                    self.assertIs(type(taken.exception.most), int)
            self.assertEqual(plain(systems), kept)

    def test_no_fit(self):
        self.refuse(in_row, [(1, 1, 1), (1, 2, 1)], NoFit)
        self.refuse(in_row, [(1, 2, 2), (1, 1, 2)], NoFit)
        self.refuse(in_row, [(0, 1, 0), (0, 1, 1)], NoFit)
        self.refuse(added, [(1, 1, 1), (1, 2, 1)], NoFit)
        self.refuse(added, [(1, 1, 1), (1, 1, 2)], NoFit)
        self.refuse(added, [(1, 2, 1), (1, 1, 2)], NoFit)
        self.refuse(added, [(0, 0, 0), (0, 0, 1)], NoFit)
        self.refuse(ringed, [(1, 1, 1), (1, 2, 1)], NoFit)
        self.refuse(ringed, [(1, 1, 1), (1, 1, 2)], NoFit)
        self.refuse(ringed, [(1, 2, 1), (1, 2, 1)], NoFit)
        self.refuse(ringed, [(0, 0, 0), (0, 0, 1)], NoFit)

    def test_too_many_puts_or_looks(self):
        self.refuse(beside, [(1, 4, 0), (1, 1, 0)], TooMany, 4)
        self.refuse(beside, [(1, 0, 2), (1, 0, 3)], TooMany, 4)
        self.refuse(beside, [(0, 4, 4), (0, 4, 4)], TooMany, 4)

    def test_too_many_numbers_in_the_state(self):
        for sizes in [(1, 8), (8, 1), (5, 4), (8, 8)]:
            for join in JOINS:
                for many in [0, 1, 2]:
                    self.refuse(join, [(states, many, many) for states in sizes], TooMany, 8)

    def test_the_order(self):
        for join in [in_row, added, ringed]:
            self.refuse(join, [(5, 2, 1), (4, 3, 4)], NoFit)
            self.refuse(join, [(8, 4, 3), (8, 4, 4)], NoFit)
        self.refuse(beside, [(5, 4, 0), (4, 1, 0)], TooMany, 4)
        self.refuse(beside, [(8, 0, 1), (8, 0, 4)], TooMany, 4)
        self.refuse(beside, [(8, 4, 4), (8, 4, 4)], TooMany, 4)
        self.refuse(beside, [(8, 2, 2), (8, 2, 2)], TooMany, 8)


if __name__ == "__main__":
    unittest.main()
