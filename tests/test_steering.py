import random
import unittest

from helmsum.bases import in_basis
from helmsum.courses import course
from helmsum.grids import unit_grid
from helmsum.steering import steered
from helmsum.systems import System
from helmsum.wishes import closed, own_wish

from helping import (
    BOUND, all_sorts, bound_system, check_grid, check_keeps, check_not_steered, is_steered, nothing, parted_system,
    plain, row_of, some_basis, some_grid, some_row, some_system, told,
)


def steered_ones(seed):
    return [system for system in all_sorts(seed) if is_steered(system)]


def one_in(many):
    """The wish of 1 and then noughts."""
    return row_of(1, *[0] * (many - 1)) if many > 0 else []


def chains(chance, lengths):
    """A System of chains of these lengths, each moved by a put of its own, though no place of its state shows it."""
    wide = sum(lengths)
    ends = [sum(lengths[:at + 1]) - 1 for at in range(len(lengths))]
    move = [row_of(*[int(at == place + 1 and place not in ends) for at in range(wide)]) for place in range(wide)]
    put = [row_of(*[int(at == end) for at in range(wide)]) for end in ends]
    return in_basis(System(move, put, []), some_basis(chance, wide))


class Steered(unittest.TestCase):
    def check(self, system, wish, chance):
        answer = told(self, steered, system, wish)
        check_grid(self, answer, system.ins, system.states)
        there = closed(system, answer)
        self.assertEqual(own_wish(there), wish)
        check_keeps(self, there, wish, some_row(chance, system.states, 9), 2)
        return answer

    def check_refused(self, system, wish):
        kept = plain(wish)
        check_not_steered(self, system, lambda: steered(system, wish))
        self.assertEqual(wish, kept)

    def test_by_hand(self):
        chance = random.Random(1)
        cart = System([row_of(1, 1), row_of(0, 1)], [row_of(0, 1)], [row_of(1, 0)])
        self.assertEqual(self.check(cart, row_of(0, 0), chance), [row_of(-1, -2)])
        self.assertEqual(self.check(cart, row_of(-1, 2), chance), [row_of(0, 0)])
        self.assertEqual(self.check(cart, row_of(1, 0), chance), [row_of(0, -2)])
        self.assertEqual(self.check(System([row_of(5)], [row_of(2)], []), row_of(4), chance), [[(-1, 2)]])

    def test_drawn_wishes(self):
        chance = random.Random(2)
        for system in steered_ones(3):
            for turn in range(2):
                self.check(system, some_row(chance, system.states, 1000), chance)

    def test_a_wish_of_noughts_brings_each_course_to_rest(self):
        chance = random.Random(4)
        for system in steered_ones(5):
            wide = system.states
            there = closed(system, self.check(system, row_of(*[0] * wide), chance))
            for start in unit_grid(wide) + [some_row(chance, wide, 1000)]:
                for state in course(there, start, nothing(system, wide + 2))[wide:]:
                    self.assertEqual(state, row_of(*[0] * wide))

    def test_a_wish_of_one_and_then_noughts_brings_each_course_back(self):
        chance = random.Random(6)
        for system in steered_ones(7):
            wide = system.states
            there = closed(system, self.check(system, one_in(wide), chance))
            start = some_row(chance, wide, 1000)
            states = course(there, start, nothing(system, 2 * wide + 1))
            self.assertEqual(states[wide], start)
            self.assertEqual(states[wide:], states[:wide + 2])

    def test_its_own_wish(self):
        chance = random.Random(8)
        for system in steered_ones(9):
            self.check(system, own_wish(system), chance)

    def test_several_puts_that_are_all_needed(self):
        chance = random.Random(10)
        for lengths in [(1, 1), (2, 1), (1, 2), (2, 2), (1, 1, 1, 1), (3, 1, 2), (2, 2, 2, 2), (1, 5, 1), (4, 4)]:
            system = chains(chance, lengths)
            for place in range(system.ins):
                fewer = System(system.move, system.put[:place] + system.put[place + 1:], [])
                self.check_refused(fewer, row_of(*[0] * system.states))
            for wish in [some_row(chance, system.states, 9), row_of(*[0] * system.states), one_in(system.states)]:
                self.check(system, wish, chance)
        # Where nothing moves, each put steers its own number alone.
        for many in range(1, 5):
            for move in [unit_grid(many), [row_of(*[0] * many)] * many]:
                system = System(move, unit_grid(many), [])
                for wish in [row_of(*[0] * many), one_in(many), some_row(chance, many, 9)]:
                    self.check(system, wish, chance)

    def test_the_first_put_does_nothing(self):
        chance = random.Random(11)
        cart = [row_of(1, 1), row_of(0, 1)]
        for put in [[row_of(0, 0), row_of(0, 1)], [row_of(1, 0), row_of(2, 0), row_of(0, 0), row_of(0, 3)]]:
            self.check(System(cart, put, []), some_row(chance, 2, 9), chance)

    def test_more_puts_than_needed(self):
        chance = random.Random(12)
        for states in range(1, 4):
            for move in [some_grid(chance, states, states, 9), unit_grid(states)]:
                put = some_basis(chance, states) + some_grid(chance, 4 - states, states, 3)
                for turn in range(3):
                    chance.shuffle(put)
                    self.check(System(move, put, []), some_row(chance, states, 9), chance)

    def test_without_numbers_in_the_state(self):
        for ins in range(5):
            system = System([], [[]] * ins, [[]])
            self.assertEqual(self.check(system, [], random.Random(13)), [[] for put in range(ins)])

    def test_not_steered(self):
        chance = random.Random(14)
        for states, ins, count in BOUND:
            system = bound_system(chance, states, ins, 1, count, 3)
            self.check_refused(system, some_row(chance, states, 9))
            self.check_refused(system, row_of(*[0] * states))
            self.check_refused(system, own_wish(system))
        for ins in range(5):
            self.check_refused(System(some_grid(chance, 3, 3, 9), [row_of(0, 0, 0)] * ins, []), row_of(0, 0, 0))
        self.check_refused(System([row_of(2, 0), row_of(0, 2)], [row_of(1, 1), row_of(2, 2)], []), row_of(1, 2))

    def test_just_what_is_not_steered_is_refused(self):
        chance = random.Random(15)
        for system in all_sorts(16):
            wish = some_row(chance, system.states, 9)
            if is_steered(system):
                self.check(system, wish, chance)
            else:
                self.check_refused(system, wish)

    def test_the_wish_may_be_changed_behind_the_call(self):
        system = some_system(random.Random(17), 3, 1, 0, 9)
        wish = row_of(1, 2, 3)
        answer = steered(system, wish)
        kept = plain(answer)
        wish[0] = (9, 1)
        self.assertEqual(answer, kept)
        self.assertEqual(steered(system, row_of(1, 2, 3)), kept)

    def test_great_numbers(self):
        chance = random.Random(18)
        for sizes in [(5, 1, 0), (8, 3, 0)]:
            self.check(some_system(chance, *sizes, 10 ** 6), some_row(chance, sizes[0], 1000), chance)
        self.check_refused(parted_system(chance, (0, 4, 0, 3), 2, 0, 1000), row_of(*[0] * 7))


if __name__ == "__main__":
    unittest.main()
