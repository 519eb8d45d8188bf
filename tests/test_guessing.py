import random
import unittest

from helmsum.courses import course
from helmsum.errors import NotSeen, SumError
from helmsum.guessing import Guesser, Pilot
from helmsum.grids import unit_grid
from helmsum.rows import is_nought
from helmsum.systems import System
from helmsum.unseen import unseen_rows

from helping import (
    all_sorts, check_not_steered, check_row, in_span, is_seen, is_steered, parted_system, plain, rest, row_of,
    some_grid, some_row, some_system,
)

CART = System([row_of(1, 1), row_of(0, 1)], [row_of(0, 1)], [row_of(1, 0)])


def check_not_seen(case, made, system):
    """That what makes a Guesser or a Pilot is refused with a state that looks like rest, the same one each time."""
    before = plain(system)
    states = []
    for turn in range(2):
        with case.assertRaises(NotSeen) as caught:
            made(system)
        case.assertIs(type(caught.exception).__base__, SumError)
        state = caught.exception.state
        states.append(list(state))
        check_row(case, state, system.states)
        case.assertFalse(is_nought(state))
        case.assertTrue(in_span(unseen_rows(system, system.states), system.states, state))
        state.append("spoilt")
    case.assertEqual(states[0], states[1])
    case.assertEqual(plain(system), before)


class Guessing(unittest.TestCase):
    def check(self, system, start, puts):
        """Follows the course by its looks; the guess is to be the state from n takings on."""
        guesser = Guesser(system)
        self.follow(system, guesser, start, puts)
        return guesser

    def follow(self, system, guesser, start, puts):
        states = course(system, start, puts)
        for done, state in enumerate(states):
            self.check_guess(system, guesser)
            if done >= system.states:
                self.assertEqual(guesser.guess(), state)
            if done < len(puts):
                row = list(puts[done])
                looks = system.seen(state)
                kept = list(looks)
                self.assertIsNone(guesser.take(row, looks))
                self.assertEqual([row, looks], [puts[done], kept])
                # What was handed in may be changed behind the call.
                row.clear()
                looks.append("spoilt")

    def check_guess(self, system, guesser):
        first = guesser.guess()
        check_row(self, first, system.states)
        second = guesser.guess()
        self.assertIsNot(first, second)
        self.assertEqual(first, second)
        second.append("spoilt")
        self.assertEqual(guesser.guess(), first)

    def test_rest_at_first(self):
        for system in all_sorts(1):
            if is_seen(system):
                self.assertEqual(Guesser(system).guess(), rest(system))

    def test_by_hand(self):
        guesser = Guesser(CART)
        guesser.take(row_of(1), row_of(7))
        guesser.take(row_of(0), row_of(10))
        # The cart was at 7 with the speed 3, then at 10 with 4, and is at 14.
        self.assertEqual(guesser.guess(), row_of(14, 4))
        guesser.take(row_of(-4), row_of(14))
        self.assertEqual(guesser.guess(), row_of(18, 0))

    def test_from_drawn_starts_with_drawn_puts(self):
        chance = random.Random(2)
        for system in all_sorts(3):
            if is_seen(system):
                for turn in range(2):
                    start = some_row(chance, system.states, 1000)
                    self.check(system, start, some_grid(chance, system.states + 4, system.ins, 9))

    def test_each_unit_row_as_start(self):
        for system in [CART, some_system(random.Random(4), 5, 1, 1, 3), some_system(random.Random(5), 4, 2, 3, 9)]:
            for start in unit_grid(system.states):
                self.check(system, start, [row_of(*[0] * system.ins)] * (system.states + 2))

    def test_another_course_behind_the_first(self):
        chance = random.Random(6)
        for system in [CART, some_system(chance, 6, 2, 1, 5)]:
            guesser = Guesser(system)
            for turn in range(3):
                start = some_row(chance, system.states, 100)
                self.follow(system, guesser, start, some_grid(chance, system.states + 2, system.ins, 9))

    def test_not_seen(self):
        refused = 0
        for system in all_sorts(7):
            if not is_seen(system):
                check_not_seen(self, Guesser, system)
                refused += 1
        self.assertGreater(refused, 20)
        check_not_seen(self, Guesser, System([row_of(1, 0), row_of(0, 1)], [row_of(1, 0)], [row_of(1, -1)]))

    def test_two_guessers_of_one_system_by_turns(self):
        chance = random.Random(8)
        for system in [CART, some_system(chance, 5, 2, 2, 9)]:
            steps = system.states + 3
            runs = []
            for turn in range(2):
                puts = some_grid(chance, steps, system.ins, 9)
                runs.append((course(system, some_row(chance, system.states, 99), puts), puts))
            alone = [[], []]
            for run, guesses in zip(runs, alone):
                guesser = Guesser(system)
                for state, puts in zip(*run):
                    guesser.take(puts, system.seen(state))
                    guesses.append(guesser.guess())
            both = [Guesser(system), Guesser(System(system.move, system.put, system.look))]
            by_turns = [[], []]
            for step in range(steps):
                for guesser, run, guesses in zip(both, runs, by_turns):
                    guesser.take(run[1][step], system.seen(run[0][step]))
                    guesses.append(guesser.guess())
            self.assertEqual(by_turns, alone)

    def test_without_numbers_in_the_state(self):
        for ins in range(3):
            for outs in range(3):
                system = System([], [[]] * ins, [[]] * outs)
                self.check(system, [], some_grid(random.Random(9), 3, ins, 9))

    def test_one_number(self):
        self.check(System([[(-3, 2)]], [], [[(2, 3)]]), row_of(5), [[], [], []])
        # A look at what is gone in a step anyway still has to be right in a step.
        self.check(System([row_of(0)], [row_of(1)], [row_of(1)]), row_of(5), [row_of(1), row_of(2)])

    def test_great_numbers(self):
        chance = random.Random(10)
        for sizes in [(4, 1, 1), (8, 2, 4)]:
            system = some_system(chance, *sizes, 10 ** 6)
            self.check(system, some_row(chance, sizes[0], 1000), some_grid(chance, sizes[0] + 1, sizes[1], 1000))


class Piloting(unittest.TestCase):
    def check(self, system, start):
        """Steers the course by its looks; the state is to be rest from 2 n steps on, and nothing to be put in."""
        pilot = Pilot(system)
        told_puts = self.steer(system, pilot, start)
        again = self.steer(system, Pilot(system), start)
        self.assertEqual(told_puts, again)
        return pilot

    def steer(self, system, pilot, start):
        state = start
        told_puts = []
        for done in range(2 * system.states + 4):
            looks = system.seen(state)
            kept = list(looks)
            puts = pilot.put_for(looks)
            self.assertEqual(looks, kept)
            looks.append("spoilt")
            check_row(self, puts, system.ins)
            if done >= 2 * system.states:
                self.assertTrue(is_nought(state))
                self.assertTrue(is_nought(puts))
            state = system.moved(state, puts)
            told_puts.append(list(puts))
            puts.append("spoilt")
        return told_puts

    def good_ones(self, seed):
        return [system for system in all_sorts(seed) if is_steered(system) and is_seen(system)]

    def test_from_drawn_starts(self):
        chance = random.Random(11)
        for system in self.good_ones(12):
            for start in [some_row(chance, system.states, 1000), rest(system)]:
                self.check(system, start)

    def test_each_unit_row_as_start(self):
        for system in [CART, some_system(random.Random(13), 4, 1, 1, 3), some_system(random.Random(14), 3, 2, 3, 9)]:
            for start in unit_grid(system.states):
                self.check(system, start)

    def test_from_rest_nothing_is_put_in(self):
        for system in self.good_ones(15):
            pilot = Pilot(system)
            for step in range(3):
                self.assertTrue(is_nought(pilot.put_for(row_of(*[0] * system.outs))))

    def test_another_start_behind_the_first(self):
        chance = random.Random(16)
        for system in [CART, some_system(chance, 4, 2, 2, 9)]:
            pilot = Pilot(system)
            for turn in range(3):
                self.steer(system, pilot, some_row(chance, system.states, 99))

    def test_two_pilots_of_one_system_by_turns(self):
        chance = random.Random(17)
        starts = [some_row(chance, 2, 9) for turn in range(2)]
        alone = [self.steer(CART, Pilot(CART), start) for start in starts]
        pilots = [Pilot(CART), Pilot(CART)]
        states = starts
        by_turns = [[], []]
        for step in range(8):
            for at in range(2):
                by_turns[at].append(pilots[at].put_for(CART.seen(states[at])))
            states = [CART.moved(state, puts[-1]) for state, puts in zip(states, by_turns)]
        self.assertEqual(by_turns, alone)

    def test_not_steered_ahead_of_not_seen(self):
        words = set()
        for system in all_sorts(18):
            words.add((is_steered(system), is_seen(system)))
            if not is_steered(system):
                check_not_steered(self, system, lambda: Pilot(system))
            elif not is_seen(system):
                check_not_seen(self, Pilot, system)
        self.assertEqual(len(words), 4)
        both = parted_system(random.Random(19), (1, 1, 1, 1), 1, 1, 3)
        check_not_steered(self, both, lambda: Pilot(both))
        check_not_seen(self, Guesser, both)

    def test_without_numbers_in_the_state(self):
        for ins in range(3):
            for outs in range(3):
                self.check(System([], [[]] * ins, [[]] * outs), [])

    def test_great_numbers(self):
        chance = random.Random(20)
        self.check(some_system(chance, 4, 1, 1, 10 ** 6), some_row(chance, 4, 1000))
        self.check(some_system(chance, 6, 2, 2, 1000), some_row(chance, 6, 1000))


if __name__ == "__main__":
    unittest.main()
