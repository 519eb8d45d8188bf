"""What is promised over the whole program: its interface, that asking changes nothing, and what its parts tell of one
another."""

import importlib
import inspect
import random
import unittest

from helmsum.alike import apart, bridge, size_paper
from helmsum.bases import in_basis, seen_first, steered_first
from helmsum.costs import Costs
from helmsum.courses import course, looks_along, pulses
from helmsum.desk import Desk
from helmsum.efforts import effort, is_least, least, within
from helmsum.errors import SumError
from helmsum.fewest import soonest
from helmsum.guessing import Guesser, Pilot
from helmsum.joins import added, beside, in_row, ringed
from helmsum.parts import four_parts, seen_part, smallest, steered_part
from helmsum.ratios import plus
from helmsum.reach import come, reach_rows
from helmsum.rows import is_nought, row_dot, row_minus
from helmsum.shut import is_shut, shut_off, unsteered
from helmsum.steering import steered
from helmsum.systems import System
from helmsum.telling import starts, told_by
from helmsum.texts import read_system, show_number, show_system
from helmsum.unseen import unseen_rows
from helmsum.wishes import closed, own_wish

from helping import (
    all_sorts, check_same_looks, fields, is_seen, is_steered, lists_in, nothing, plain, rest, row_of, some_basis,
    some_grid, some_row, some_weights,
)

FUNCTIONS = {
    "ratios": {
        "is_whole": 1, "is_number": 1, "number": 2, "plus": 2, "minus": 2, "times": 2, "parted": 2, "under": 2,
    },
    "rows": {
        "is_row": 2, "row_plus": 2, "row_minus": 2, "row_times": 2, "row_dot": 2, "nought_row": 1, "unit_row": 2,
        "is_nought": 1,
    },
    "grids": {"grid_on": 2, "grid_times": 3, "grid_turned": 2, "unit_grid": 1},
    "spans": {"reduced": 2, "leading": 1, "free_places": 2},
    "equations": {"solve": 3, "nulls": 2, "weights_for": 3, "inverse": 1},
    "courses": {"course": 3, "looks_along": 3, "pulses": 2},
    "joins": {"in_row": 2, "beside": 2, "added": 2, "ringed": 2},
    "reach": {"reach_rows": 2, "come": 4},
    "fewest": {"soonest": 4},
    "shut": {"shut_off": 2, "is_shut": 4, "unsteered": 1},
    "unseen": {"unseen_rows": 2},
    "telling": {"told_by": 3, "starts": 3},
    "efforts": {"effort": 2, "least": 5, "is_least": 6, "within": 6},
    "bases": {"in_basis": 2, "steered_first": 1, "seen_first": 1},
    "parts": {"steered_part": 1, "seen_part": 1, "smallest": 1, "four_parts": 1},
    "alike": {"apart": 2, "size_paper": 1, "bridge": 2},
    "wishes": {"closed": 2, "own_wish": 1},
    "steering": {"steered": 2},
    "texts": {
        "show_number": 1, "read_number": 1, "show_row": 1, "read_row": 1, "show_system": 1, "read_system": 1,
    },
}
CLASSES = {
    ("systems", "System"): {"__init__": 3, "moved": 2, "seen": 1, "turned": 0},
    ("costs", "Costs"): {"__init__": 4, "cost": 2, "worth": 1, "due": 2, "best": 2},
    ("guessing", "Guesser"): {"__init__": 1, "guess": 0, "take": 2},
    ("guessing", "Pilot"): {"__init__": 1, "put_for": 1},
    ("desk", "Desk"): {"__init__": 0, "say": 1},
}
ERRORS = {
    "Wrong": ["at"], "NoThing": ["at"], "TooMany": ["most"], "NoNumber": [], "NoFit": [], "NotSteered": ["price"],
    "NotSeen": ["state"], "NoText": [], "NoName": ["name"], "Taken": ["name"],
}


def arguments_of(function):
    return list(inspect.signature(function).parameters)


class Interface(unittest.TestCase):
    def test_functions(self):
        for module, functions in FUNCTIONS.items():
            found = importlib.import_module("helmsum." + module)
            for name, many in functions.items():
                self.assertEqual(len(arguments_of(getattr(found, name))), many, name)

    def test_classes(self):
        for (module, name), methods in CLASSES.items():
            found = getattr(importlib.import_module("helmsum." + module), name)
            self.assertIs(type(found), type)
            for method, many in methods.items():
                self.assertEqual(len(arguments_of(getattr(found, method))), many + 1, method)

    def test_refusals(self):
        errors = importlib.import_module("helmsum.errors")
        self.assertIs(errors.SumError.__base__, ValueError)
        for name, values in ERRORS.items():
            found = getattr(errors, name)
            self.assertIs(found.__base__, errors.SumError)
            made = found(*[f"the {value}" for value in values])
            self.assertEqual([getattr(made, value) for value in values], [f"the {value}" for value in values])


def some_askings(chance, system):
    """Askings of all sorts, each a name, a function and what is handed in behind the system."""
    wide = system.states
    start = some_row(chance, wide, 9)
    goal = some_row(chance, wide, 9)
    puts = some_grid(chance, 3, system.ins, 9)
    looks = looks_along(system, start, puts)[:-1]
    weights = some_weights(chance, system.ins, 9)
    shut = unsteered(system)
    price = some_row(chance, wide, 3)
    costs = [some_weights(chance, wide, 9), weights, some_weights(chance, wide, 9)]
    return [
        (course, start, puts), (looks_along, start, puts), (pulses, 5), (reach_rows, 2), (come, start, goal, 3),
        (come, start, goal, 12), (soonest, start, goal, 4), (shut_off, goal), (is_shut, goal, *shut), (unsteered,),
        (unseen_rows, 2), (told_by, goal, 3), (starts, puts, looks), (starts, puts[:2], looks[1:]),
        (least, weights, start, goal, 9), (is_least, weights, start, goal, puts, price),
        (within, weights, start, goal, 3, (5, 1)), (in_basis, some_basis(chance, wide)), (steered_first,),
        (seen_first,),
        (steered_part,), (seen_part,), (smallest,), (four_parts,), (size_paper,), (own_wish,), (show_system,),
        (closed, some_grid(chance, system.ins, wide, 9)), (steered, some_row(chance, wide, 9)),
        (moved, start, puts[0]), (seen, start), (turned,), (with_itself, in_row), (with_itself, beside),
        (with_itself, added), (with_itself, ringed), (with_itself, apart), (bridged,), (guessed, puts, looks),
        (piloted, looks), (costed, costs, start, puts), (said, start),
    ]


def moved(system, state, puts):
    return system.moved(state, puts)


def seen(system, state):
    return system.seen(state)


def turned(system):
    return system.turned()


def with_itself(system, function):
    return function(system, system)


def bridged(system):
    small = smallest(system)
    return bridge(small, small)


def guessed(system, puts, looks):
    guesser = Guesser(system)
    for row, look in zip(puts, looks):
        guesser.take(row, look)
    return guesser.guess()


def piloted(system, looks):
    pilot = Pilot(system)
    return [pilot.put_for(look) for look in looks]


def costed(system, weights, start, puts):
    made = Costs(system, *weights)
    return [made.cost(start, puts), made.worth(2), made.due(start, 2), made.best(start, 2)]


def said(system, start):
    desk = Desk()
    desk.say("system one " + show_system(system))
    numbers = [show_number(number) for number in start]
    return [desk.say(line) for line in [" ".join(["fewest one"] + numbers), "sizes one", "show one", "names"]]


def answer_of(system, asking):
    """What is told, or the refusal with its fields; in a form that can be compared, and the lists in it."""
    try:
        answer = asking[0](system, *asking[1:])
    except SumError as refusal:
        answer = (type(refusal).__name__, *[vars(refusal)[name] for name in sorted(vars(refusal))])
    return (plain(answer), lists_in(answer))


class AskingChangesNothing(unittest.TestCase):
    def test_who_asks_twice_is_told_the_same_twice(self):
        chance = random.Random(1)
        for system in all_sorts(2):
            same = System(*plain(fields(system)[:3]))
            askings = some_askings(chance, system)
            before = plain([fields(system), [asking[1:] for asking in askings]])
            first = []
            for asking in askings:
                answer = answer_of(system, asking)
                first.append(answer[0])
                # The asker may change what was told; no later answer changes.
                for found in answer[1]:
                    found.append("spoilt")
            self.assertEqual(plain([fields(system), [asking[1:] for asking in askings]]), before)
            again = [answer_of(same, asking)[0] for asking in reversed(askings)]
            self.assertEqual(list(reversed(again)), first)
            self.assertEqual([answer_of(system, asking)[0] for asking in askings], first)


class TheWhole(unittest.TestCase):
    def test_either_puts_or_a_price(self):
        chance = random.Random(3)
        for system in all_sorts(4):
            start = some_row(chance, system.states, 9)
            goal = some_row(chance, system.states, 9)
            for steps in [1, system.states, 12]:
                found = soonest(system, start, goal, steps)
                self.assertEqual(found[0] is None, all(
                    come(system, start, goal, few)[0] == "never" for few in range(steps + 1)
                ))
            answer = shut_off(system, goal)
            ways = [come(system, rest(system), goal, few)[0] for few in [system.states, 12]]
            if answer[0] == "in":
                self.assertEqual(ways, ["puts", "puts"])
            else:
                self.assertEqual(ways, ["never", "never"])
                self.assertTrue(is_shut(system, goal, answer[1], answer[2]))

    def test_what_can_not_be_steered_goes_its_own_way_however_it_is_steered(self):
        chance = random.Random(5)
        for system in all_sorts(6):
            own = unsteered(system)
            there = closed(system, some_grid(chance, system.ins, system.states, 3))
            self.assertEqual(unsteered(there), own)
            self.assertEqual(reach_rows(there, system.states), reach_rows(system, system.states))

    def test_the_told_puts_have_the_least_effort(self):
        chance = random.Random(7)
        for system in all_sorts(8):
            weights = some_weights(chance, system.ins, 9)
            puts = some_grid(chance, 4, system.ins, 3)
            start = some_row(chance, system.states, 9)
            goal = course(system, start, puts)[-1]
            word, least_effort, told_puts, price = least(system, weights, start, goal, 4)
            self.assertTrue(is_least(system, weights, start, goal, told_puts, price))
            more = effort(weights, [row_minus(row, other) for row, other in zip(puts, told_puts)])
            self.assertEqual(effort(weights, puts), plus(least_effort, more))

    def test_a_system_and_its_smallest_one(self):
        chance = random.Random(9)
        for system in all_sorts(10):
            small = smallest(system)
            check_same_looks(self, system, small, chance)
            self.assertIsNone(apart(system, small))
            self.assertEqual(len(size_paper(system)[0]), small.states)
            other = smallest(in_basis(system, some_basis(chance, system.states)))
            self.assertEqual(other.states, small.states)
            way = bridge(small, other)
            back = bridge(other, small)
            for row in some_grid(chance, 2, small.states, 9):
                there = [row_dot(line, row) for line in way]
                self.assertEqual([row_dot(line, there) for line in back], row)

    def test_steered_by_guesses_alone(self):
        chance = random.Random(11)
        for system in all_sorts(12):
            if is_steered(system) and is_seen(system):
                pilot = Pilot(system)
                guesser = Guesser(system)
                state = some_row(chance, system.states, 9)
                for step in range(2 * system.states):
                    puts = pilot.put_for(system.seen(state))
                    guesser.take(puts, system.seen(state))
                    state = system.moved(state, puts)
                    if step + 1 >= system.states:
                        self.assertEqual(guesser.guess(), state)
                self.assertTrue(is_nought(state))
                wish = row_of(*[0] * system.states)
                there = closed(system, steered(system, wish))
                start = some_row(chance, system.states, 9)
                self.assertTrue(is_nought(course(there, start, nothing(system, system.states))[-1]))

    def test_what_is_told_may_be_handed_in_again(self):
        chance = random.Random(13)
        for system in all_sorts(14):
            there = in_basis(system, steered_first(system)[0])
            small = smallest(there)
            text = show_system(small)
            self.assertEqual(fields(read_system(text)), fields(small))
            self.assertIsNone(apart(read_system(text), system))
            puts = some_grid(chance, 3, system.ins, 9)
            goal = course(small, rest(small), puts)[-1]
            answer = shut_off(small, goal)
            self.assertEqual(answer[0], "in")
            self.assertEqual(course(small, rest(small), answer[2])[-1], goal)


if __name__ == "__main__":
    unittest.main()
