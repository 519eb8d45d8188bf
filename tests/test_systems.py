import random
import unittest

from helmsum.errors import NoThing, TooMany, Wrong
from helmsum.systems import System

from helping import (
    NO_NUMBERS, STRANGE, check_row, dot, fields, lists_in, plain, row_as, row_of, some_grid, some_parts, some_row,
    told, value,
)

GREAT = 10 ** 6
SIZES = [(0, 0, 0), (0, 1, 1), (0, 4, 4), (1, 0, 0), (1, 1, 1), (2, 1, 3), (3, 4, 0), (4, 0, 4), (8, 4, 4)]


def next_state(parts, state, puts):
    """The next state, reckoned place by place with fractions."""
    move, put, look = parts
    told_sums = []
    for place, line in enumerate(move):
        added = sum(value(by) * value(row[place]) for by, row in zip(puts, put, strict=True))
        told_sums.append(dot(line, state) + added)
    return row_as(told_sums)


class Fields(unittest.TestCase):
    def test_sizes(self):
        chance = random.Random(1)
        for states, ins, outs in SIZES:
            move, put, look = some_parts(chance, states, ins, outs, GREAT)
            system = told(self, System, move, put, look)
            self.assertEqual(fields(system), [move, put, look, states, ins, outs])
            for rows in [system.move, system.put, system.look]:
                self.assertIs(type(rows), list)
                for row in rows:
                    check_row(self, row, states)

    def test_lists_changed_behind_the_call_change_nothing(self):
        for states, ins, outs in SIZES:
            parts = some_parts(random.Random(2), states, ins, outs, 50)
            system = System(*parts)
            kept = plain(system)
            for found in lists_in(parts):
                found.reverse()
                found.append("spoilt")
            self.assertEqual(plain(system), kept)

    def test_one_list_at_several_places(self):
        row = row_of(2)
        rows = [row]
        system = System(rows, rows, [row, row])
        rows.append(row)
        row[0] = (5, 1)
        self.assertEqual(fields(system), [[row_of(2)], [row_of(2)], [row_of(2), row_of(2)], 1, 1, 2])
        found = [id(each) for each in lists_in(system)]
        self.assertEqual(len(found), len(set(found)))


class Refusals(unittest.TestCase):
    def refuse(self, refusal, field, parts):
        before = plain(parts)
        with self.assertRaises(refusal) as taken:
            System(*parts)
        self.assertIs(type(taken.exception), refusal)
        told_field = taken.exception.most if refusal is TooMany else taken.exception.at
        self.assertEqual(told_field, field)
        self.assertIs(type(told_field), int)
        self.assertEqual(plain(parts), before)

    def test_what_is_no_list(self):
        rows = [row_of(1, 2), row_of(3, 4)]
        for thing in STRANGE + [tuple(rows), "ab", System([], [], [])]:
            if not isinstance(thing, list):
                self.refuse(Wrong, 0, (thing, rows, rows))
                self.refuse(Wrong, 1, (rows, thing, rows))
                self.refuse(Wrong, 2, (rows, rows, thing))

    def test_too_many(self):
        grid = some_grid(random.Random(3), 9, 9, 5)
        self.refuse(TooMany, 8, (grid, [], []))
        for many in [9, 10, 100]:
            self.refuse(TooMany, 8, ([None] * many, None, None))
        for many in [5, 6, 100]:
            self.refuse(TooMany, 4, ([row_of(1)], [row_of(1)] * many, []))
            self.refuse(TooMany, 4, ([row_of(1)], [], [row_of(1)] * many))
            self.refuse(TooMany, 4, ([], [[]] * many, []))
            self.refuse(TooMany, 4, ([], [], [[]] * many))
            self.refuse(TooMany, 4, ([], [None] * many, None))

    def test_no_row_at_some_place(self):
        for at in range(8):
            move, put, look = some_parts(random.Random(4), 8, 4, 4, 50)
            for thing in STRANGE + [row_of(*range(7)), row_of(*range(9)), tuple(row_of(*range(8)))]:
                self.refuse(NoThing, at, (with_thing(move, at, thing), put, look))
                if at < 4:
                    self.refuse(NoThing, at, (move, with_thing(put, at, thing), look))
                    self.refuse(NoThing, at, (move, put, with_thing(look, at, thing)))

    def test_no_number_in_a_row(self):
        for place in range(3):
            for thing in NO_NUMBERS:
                move, put, look = some_parts(random.Random(5), 3, 2, 2, 50)
                row = with_thing(row_of(1, 2, 3), place, thing)
                self.refuse(NoThing, 2, (with_thing(move, 2, row), put, look))
                self.refuse(NoThing, 1, (move, with_thing(put, 1, row), look))
                self.refuse(NoThing, 1, (move, put, with_thing(look, 1, row)))

    def test_the_first_place_in_a_list_is_told(self):
        rows = [row_of(1, 2), None]
        self.refuse(NoThing, 0, ([None, None], [], []))
        self.refuse(NoThing, 1, (rows, [], []))
        self.refuse(NoThing, 1, ([row_of(1)], [row_of(1), None, 3, row_of(1)], []))
        self.refuse(NoThing, 2, ([row_of(1)], [], [row_of(1), row_of(1), row_of(1, 1), []]))

    def test_the_order(self):
        right = [row_of(1)]
        self.refuse(Wrong, 0, (None, None, None))
        self.refuse(Wrong, 0, ((), [None] * 9, 5))
        self.refuse(TooMany, 8, ([None] * 9, None, None))
        self.refuse(NoThing, 0, ([None], None, None))
        self.refuse(NoThing, 0, ([row_of(1, 2)], [None] * 5, None))
        self.refuse(Wrong, 1, (right, None, None))
        self.refuse(Wrong, 1, (right, (), [None] * 5))
        self.refuse(TooMany, 4, (right, [None] * 5, None))
        self.refuse(NoThing, 0, (right, [[]], None))
        self.refuse(NoThing, 3, (right, right * 3 + [None], [None] * 5))
        self.refuse(Wrong, 2, (right, right, None))
        self.refuse(TooMany, 4, (right, right, [None] * 5))
        self.refuse(NoThing, 0, (right, right, [None] * 4))

    def test_rows_where_the_state_has_no_numbers(self):
        self.refuse(NoThing, 0, ([], [row_of(1)], []))
        self.refuse(NoThing, 1, ([], [], [[], ()]))
        self.refuse(NoThing, 0, ([[]], [], []))

    def test_what_was_refused_is_taken_once_it_is_right(self):
        move = [row_of(1), row_of(2)]
        self.refuse(NoThing, 0, (move, [], []))
        move.pop()
        self.assertEqual(fields(System(move, [], [])), [[row_of(1)], [], [], 1, 0, 0])


def with_thing(things, at, thing):
    return things[:at] + [thing] + things[at + 1:]


class MovedAndSeen(unittest.TestCase):
    def test_by_hand(self):
        system = System([row_of(1, 2), row_of(0, -1)], [row_of(1, 0), [(0, 1), (1, 2)]], [row_of(1, 1)])
        self.assertEqual(told(self, system.moved, row_of(3, 4), row_of(5, 6)), row_of(16, -1))
        self.assertEqual(told(self, system.seen, row_of(3, 4)), row_of(7))

    def test_sizes(self):
        chance = random.Random(6)
        for states, ins, outs in SIZES:
            for most in [3, GREAT]:
                parts = some_parts(chance, states, ins, outs, most)
                system = System(*parts)
                kept = plain(system)
                state = some_row(chance, states, 1000)
                puts = some_row(chance, ins, 1000)
                moved = told(self, system.moved, state, puts)
                check_row(self, moved, states)
                self.assertEqual(moved, next_state(parts, state, puts))
                seen = told(self, system.seen, state)
                check_row(self, seen, outs)
                self.assertEqual(seen, row_as([dot(row, state) for row in parts[2]]))
                self.assertEqual(plain(system), kept)

    def test_without_numbers_in_the_state(self):
        system = System([], [[], []], [[], [], []])
        self.assertEqual(told(self, system.moved, [], row_of(1, 2)), [])
        self.assertEqual(told(self, system.seen, []), row_of(0, 0, 0))


class Turned(unittest.TestCase):
    def test_sizes(self):
        chance = random.Random(7)
        for states, ins, outs in SIZES:
            move, put, look = some_parts(chance, states, ins, outs, GREAT)
            system = System(move, put, look)
            turned = told(self, system.turned)
            self.assertIsInstance(turned, System)
            expected = [[line[place] for line in move] for place in range(states)]
            self.assertEqual(fields(turned), [expected, look, put, states, outs, ins])
            self.assertEqual(fields(turned.turned()), fields(system))
            own = {id(found) for found in lists_in(system)}
            self.assertEqual(own & {id(found) for found in lists_in(turned)}, set())


if __name__ == "__main__":
    unittest.main()
