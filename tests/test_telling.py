import random
import unittest

from helmsum.courses import looks_along
from helmsum.grids import unit_grid
from helmsum.reach import come
from helmsum.rows import row_minus, row_plus, unit_row
from helmsum.spans import leading
from helmsum.systems import System
from helmsum.telling import starts, told_by
from helmsum.unseen import unseen_rows

from helping import (
    added_up, all_sorts, check_grid, check_row, dot, in_span, joined, nothing, plain, rest, row_of, some_grid, some_row,
    some_system, told, told_in,
)


def first_looks(system, start, puts, steps):
    """The first so many looks, with as many rows of puts as there are steps."""
    return looks_along(system, start, puts)[:steps]


def noughts(system, steps):
    return [row_of(*[0] * system.outs) for step in range(steps)]


class ToldBy(unittest.TestCase):
    def check(self, system, asked, steps):
        answer = told(self, told_by, system, asked, steps)
        self.assertIs(type(answer), tuple)
        self.assertEqual(len(answer), 2)
        rows = joined(told_in(system, steps))
        if in_span(rows[:system.states * system.outs], system.states, asked):
            self.assertEqual(answer[0], "from")
            check_grid(self, answer[1], steps, system.outs)
            self.assertEqual(added_up(rows, joined(answer[1]), system.states), asked)
        else:
            self.assertEqual(answer[0], "alike")
            check_row(self, answer[1], system.states)
            looks = first_looks(system, answer[1], nothing(system, steps), steps)
            self.assertEqual(looks, noughts(system, steps))
            self.assertEqual(dot(answer[1], asked), 1)
        return answer

    def test_by_hand(self):
        cart = System([row_of(1, 1), row_of(0, 1)], [], [row_of(1, 0)])
        self.assertEqual(self.check(cart, row_of(0, 1), 2), ("from", [row_of(-1), row_of(1)]))
        self.assertEqual(self.check(cart, row_of(0, 3), 1), ("alike", [(0, 1), (1, 3)]))
        self.assertEqual(self.check(cart, row_of(5, 0), 1), ("from", [row_of(5)]))

    def test_drawn_rows_of_each_count_of_steps(self):
        chance = random.Random(1)
        words = set()
        for system in all_sorts(2):
            for steps in range(13):
                words.add((self.check(system, some_row(chance, system.states, 20), steps)[0], steps))
        self.assertEqual(words, {(word, steps) for word in ["from", "alike"] for steps in range(13)})

    def test_the_dot_is_told_of_any_start(self):
        chance = random.Random(3)
        for system in all_sorts(4):
            for steps in [0, 1, 3, 12]:
                rows = joined(told_in(system, steps))
                asked = added_up(rows, some_row(chance, len(rows), 5), system.states)
                word, weights = self.check(system, asked, steps)
                self.assertEqual(word, "from")
                for turn in range(3):
                    start = some_row(chance, system.states, 50)
                    looks = first_looks(system, start, nothing(system, steps), steps)
                    self.assertEqual(sum(dot(*pair) for pair in zip(weights, looks)), dot(asked, start))

    def test_no_steps(self):
        for system in all_sorts(5):
            self.assertEqual(self.check(system, rest(system), 0), ("from", []))
            for at in range(system.states):
                self.assertEqual(self.check(system, unit_row(system.states, at), 0)[0], "alike")

    def test_without_looks(self):
        system = System([row_of(1, 2), row_of(3, 4)], [row_of(1, 0)], [])
        self.assertEqual(self.check(system, row_of(0, 0), 3), ("from", [[], [], []]))
        self.assertEqual(self.check(system, row_of(0, 1), 3)[0], "alike")

    def test_without_numbers_in_the_state(self):
        self.assertEqual(self.check(System([], [], [[], []]), [], 2)[0], "from")

    def test_the_greatest_numbers(self):
        chance = random.Random(6)
        for sizes in [(8, 0, 4), (4, 1, 1)]:
            system = some_system(chance, *sizes, 10 ** 6)
            for steps in [1, 2, 4]:
                self.check(system, some_row(chance, system.states, 1000), steps)


class Starts(unittest.TestCase):
    def check(self, system, puts, looks):
        answer = told(self, starts, system, puts, looks)
        self.assertIs(type(answer), tuple)
        steps = len(looks)
        rows = joined(told_in(system, steps))
        of_rest = first_looks(system, rest(system), puts, steps)
        due = [row_minus(mine, yours) for mine, yours in zip(looks, of_rest)]
        columns = [[row[place] for row in rows] for place in range(system.states)]
        if in_span(columns, len(rows), joined(due)):
            self.check_any(system, puts, looks, answer)
        else:
            self.assertEqual((answer[0], len(answer)), ("none", 2))
            check_grid(self, answer[1], steps, system.outs)
            self.assertEqual(added_up(rows, joined(answer[1]), system.states), rest(system))
            self.assertEqual(sum(dot(*pair) for pair in zip(answer[1], due)), 1)
        return answer

    def check_any(self, system, puts, looks, answer):
        self.assertEqual((answer[0], len(answer)), ("any", 3))
        word, start, rows = answer
        check_row(self, start, system.states)
        self.assertEqual(rows, unseen_rows(system, len(looks)))
        self.assertEqual([start[lead] for lead in leading(rows)], row_of(*[0] * len(rows)))
        self.assertEqual(first_looks(system, start, puts, len(looks)), looks)
        chance = random.Random(7)
        other = row_plus(start, added_up(rows, some_row(chance, len(rows), 9), system.states))
        self.assertEqual(first_looks(system, other, puts, len(looks)), looks)

    def test_by_hand(self):
        cart = System([row_of(1, 1), row_of(0, 1)], [row_of(0, 1)], [row_of(1, 0)])
        puts = [row_of(1), row_of(9), row_of(7)]
        self.assertEqual(self.check(cart, puts, [row_of(2), row_of(5), row_of(9)]), ("any", row_of(2, 3), []))
        self.assertEqual(self.check(cart, puts[:1], [row_of(2)]), ("any", row_of(2, 0), [row_of(0, 1)]))
        self.assertEqual(self.check(cart, puts, [row_of(2), row_of(5), row_of(10)])[0], "none")

    def test_a_start_with_noughts_at_the_leading_places_of_rows(self):
        # The look tells the sum of both numbers; the rows that aren't seen lead at place 0, so the start has 0 there.
        system = System(unit_grid(2), [], [row_of(1, 1)])
        self.assertEqual(self.check(system, [[]], [row_of(5)]), ("any", row_of(0, 5), [row_of(1, -1)]))

    def test_looks_of_drawn_starts(self):
        chance = random.Random(8)
        for system in all_sorts(9):
            for steps in range(13):
                start = some_row(chance, system.states, 20)
                puts = some_grid(chance, steps, system.ins, 9)
                answer = self.check(system, puts, first_looks(system, start, puts, steps))
                self.assertEqual(answer[0], "any")
                self.assertTrue(in_span(answer[2], system.states, row_minus(start, answer[1])))

    def test_drawn_looks_and_looks_with_one_spoilt(self):
        chance = random.Random(10)
        words = set()
        for system in all_sorts(11):
            for steps in [1, 2, 3, 7, 12]:
                puts = some_grid(chance, steps, system.ins, 9)
                words.add(self.check(system, puts, some_grid(chance, steps, system.outs, 9))[0])
                if system.outs:
                    looks = first_looks(system, some_row(chance, system.states, 9), puts, steps)
                    spoilt = chance.randrange(steps)
                    looks[spoilt] = row_plus(looks[spoilt], unit_row(system.outs, chance.randrange(system.outs)))
                    words.add(self.check(system, puts, looks)[0])
        self.assertEqual(words, {"any", "none"})

    def test_no_rows_of_looks(self):
        for system in all_sorts(12):
            expected = ("any", rest(system), unit_grid(system.states))
            self.assertEqual(self.check(system, [], []), expected)

    def test_the_last_puts_count_for_nothing(self):
        chance = random.Random(13)
        for system in all_sorts(14):
            for steps in [1, 2, 6, 12]:
                puts = some_grid(chance, steps, system.ins, 9)
                for looks in [some_grid(chance, steps, system.outs, 3), first_looks(system, rest(system), puts, steps)]:
                    other = puts[:-1] + some_grid(chance, 1, system.ins, 1000)
                    self.assertEqual(plain(starts(system, puts, looks)), plain(self.check(system, other, looks)))

    def test_without_looks(self):
        system = System([row_of(1, 2), row_of(3, 4)], [row_of(1, 0)], [])
        answer = self.check(system, some_grid(random.Random(15), 4, 1, 9), [[]] * 4)
        self.assertEqual(answer, ("any", row_of(0, 0), unit_grid(2)))

    def test_without_numbers_in_the_state(self):
        system = System([], [[]], [[], []])
        self.assertEqual(self.check(system, [row_of(1), row_of(2)], [row_of(0, 0)] * 2), ("any", [], []))
        self.assertEqual(self.check(system, [row_of(1), row_of(2)], [row_of(0, 0), row_of(0, 3)])[0], "none")

    def test_the_greatest_numbers(self):
        chance = random.Random(16)
        for sizes in [(8, 1, 4), (4, 2, 1)]:
            system = some_system(chance, *sizes, 10 ** 6)
            puts = some_grid(chance, 3, system.ins, 1000)
            self.check(system, puts, some_grid(chance, 3, system.outs, 1000))
            looks = first_looks(system, some_row(chance, system.states, 1000), puts, 3)
            self.assertEqual(self.check(system, puts, looks)[0], "any")


class WhatFollows(unittest.TestCase):
    def test_what_more_steps_tell_as_many_as_there_are_numbers_tell(self):
        chance = random.Random(17)
        for system in all_sorts(18):
            for asked in [some_row(chance, system.states, 5), row_of(*[1] * system.states)]:
                word = told_by(system, asked, system.states)[0]
                for steps in range(system.states, 13):
                    self.assertEqual(told_by(system, asked, steps)[0], word)

    def test_what_is_told_is_right_with_puts_when_the_looks_of_rest_are_taken_away(self):
        chance = random.Random(19)
        for system in all_sorts(20):
            for steps in [1, 4, 9]:
                rows = joined(told_in(system, steps))
                asked = added_up(rows, some_row(chance, len(rows), 3), system.states)
                weights = told_by(system, asked, steps)[1]
                puts = some_grid(chance, steps, system.ins, 9)
                start = some_row(chance, system.states, 9)
                pairs = zip(first_looks(system, start, puts, steps), first_looks(system, rest(system), puts, steps))
                left = [row_minus(mine, yours) for mine, yours in pairs]
                self.assertEqual(sum(dot(*pair) for pair in zip(weights, left)), dot(asked, start))

    def test_what_is_told_by_the_turned_system_is_what_is_come_to(self):
        chance = random.Random(21)
        for system in all_sorts(22):
            for steps in range(13):
                goal = some_row(chance, system.states, 5)
                led = come(system, rest(system), goal, steps)[0] == "puts"
                self.assertEqual(told_by(system.turned(), goal, steps)[0] == "from", led)


if __name__ == "__main__":
    unittest.main()
