"""What the tests share: made numbers, an outside way to reckon, and checks of what is told."""

import math
import random
from fractions import Fraction

from helmsum.courses import course, looks_along
from helmsum.equations import inverse
from helmsum.errors import NotSteered, SumError
from helmsum.grids import grid_on, grid_times, unit_grid
from helmsum.reach import reach_rows
from helmsum.systems import System
from helmsum.unseen import unseen_rows

STRANGE = [
    None, True, False, 0, 3, -1, 1.5, float("nan"), "", "text", b"ab", [], (), {}, set(), object(), int, len,
    [1], (1,), (1, 1), [(1, 1)], [[(1, 1)]], {0: 1}, range(3), Fraction(1, 2), 1 + 2j,
]

NO_NUMBERS = [
    None, True, 0, 7, "1/2", 0.5, [], [1, 1], (), (1,), (1, 2, 3), (2, 4), (-3, 6), (0, 2), (6, 3), (1, 0), (0, 0),
    (1, -2), (-1, -2), (0, -1), (True, 1), (1, True), (False, 1), (1.0, 1), (1, 1.0), ("1", 1), (None, 1), (1, None),
    ([1], 1), ((1, 1), 1), (1, (1, 1)), Fraction(1, 2), {1: 1, 2: 1}, object(),
]

# The sizes (states, ins, outs) of systems, and (states, ins, steered) of those of which not all can be steered.
SIZES = [(0, 0, 0), (0, 2, 1), (1, 0, 1), (1, 1, 0), (2, 1, 1), (3, 2, 4), (5, 1, 0), (6, 3, 1), (8, 1, 1), (8, 4, 4)]
BOUND = [(2, 1, 1), (3, 1, 2), (4, 2, 0), (5, 1, 3), (6, 2, 5), (8, 1, 3), (8, 3, 4)]
# The sizes of the four parts, ins and outs, of systems that part into what is steered and seen and what isn't.
PARTED = [
    ((1, 1, 1, 1), 1, 1), ((2, 2, 2, 2), 1, 1), ((1, 3, 1, 2), 2, 1), ((0, 2, 3, 1), 1, 2), ((2, 0, 1, 1), 1, 1),
    ((3, 0, 0, 2), 2, 2), ((1, 2, 0, 0), 3, 1), ((0, 0, 2, 1), 2, 2), ((2, 1, 2, 0), 4, 4),
]


def value(number):
    """The worth of a number, reckoned with by Python's own fractions."""
    return Fraction(number[0], number[1])


def values(row):
    return [value(number) for number in row]


def told_as(fraction):
    """The number that is worth the fraction."""
    return (fraction.numerator, fraction.denominator)


def row_as(fractions):
    return [told_as(fraction) for fraction in fractions]


def row_of(*wholes):
    """The row of these whole numbers."""
    return [(whole, 1) for whole in wholes]


def dot(one, other):
    """The dot of two rows, as a fraction."""
    return sum((value(mine) * value(yours) for mine, yours in zip(one, other, strict=True)), Fraction(0))


def added_up(rows, weights, wide):
    """The rows, each times its number in weights, added up, as a row."""
    total = [Fraction(0)] * wide
    for row, weight in zip(rows, weights, strict=True):
        total = [old + value(weight) * value(number) for old, number in zip(total, row, strict=True)]
    return row_as(total)


def reduced_by_fractions(rows, wide):
    """The reduced list, reckoned step by step with fractions."""
    left = [values(row) for row in rows]
    done = []
    for place in range(wide):
        found = [line for line in left if line[place] != 0]
        if found:
            first = found[0]
            left = [line for line in left if line is not first]
            first = [number / first[place] for number in first]
            done = [lessened(line, first, place) for line in done] + [first]
            left = [lessened(line, first, place) for line in left]
    return [row_as(line) for line in done]


def lessened(line, by, place):
    return [mine - line[place] * yours for mine, yours in zip(line, by, strict=True)]


def some_number(chance, most):
    """A number of top and bottom up to most; often a whole one, or 0."""
    sort = chance.randrange(6)
    if sort == 0:
        return (0, 1)
    if sort == 1:
        return (chance.randint(-most, most), 1)
    return told_as(Fraction(chance.randint(-most, most), chance.randint(1, most)))


def some_row(chance, many, most):
    return [some_number(chance, most) for place in range(many)]


def some_grid(chance, many, wide, most):
    return [some_row(chance, wide, most) for place in range(many)]


def some_parts(chance, states, ins, outs, most):
    """What a System of these sizes is made of: move, put, look."""
    return (
        some_grid(chance, states, states, most), some_grid(chance, ins, states, most),
        some_grid(chance, outs, states, most),
    )


def some_system(chance, states, ins, outs, most):
    return System(*some_parts(chance, states, ins, outs, most))


def some_basis(chance, many):
    """A grid of small numbers that has an inverse."""
    while True:
        basis = [[(chance.randint(-2, 2), 1) for place in range(many)] for row in range(many)]
        if inverse(basis) is not None:
            return basis


# Into which of the four parts of a state (what is come to and unseen, come to and seen, neither, seen alone) each goes.
GOES_INTO = [(0,), (0, 1), (0, 2), (0, 1, 2, 3)]


def parted_system(chance, sizes, ins, outs, most):
    """A System that parts into four of at most these sizes, though no place of its state shows it."""
    kinds = [kind for kind, size in enumerate(sizes) for turn in range(size)]
    states = len(kinds)
    move, put, look = some_parts(chance, states, ins, outs, most)
    for place, kind in enumerate(kinds):
        for at, giver in enumerate(kinds):
            if kind not in GOES_INTO[giver]:
                move[place][at] = (0, 1)
        for row in (put if kind in (2, 3) else []) + (look if kind in (0, 2) else []):
            row[place] = (0, 1)
    basis = some_basis(chance, states)
    back = inverse(basis)
    move = grid_times(grid_times(basis, move, states), back, states)
    return System(move, [grid_on(basis, row) for row in put], grid_times(look, back, states))


def bound_system(chance, states, ins, outs, steered, most):
    """A System of which at most so many numbers can be steered, though no place of its state shows it."""
    return parted_system(chance, (0, steered, 0, states - steered), ins, outs, most)


def some_systems(chance):
    """Systems of all sorts: all of whose states are come to, some, and none but rest."""
    systems = [some_system(chance, *sizes, most) for sizes in SIZES for most in [1, 4]]
    systems += [bound_system(chance, states, ins, 1, steered, 3) for states, ins, steered in BOUND]
    systems.append(System([row_of(0, 1, 0), row_of(0, 0, 1), row_of(0, 0, 0)], [row_of(0, 0, 1)], []))
    systems.append(System([row_of(2, 0), row_of(0, 2)], [row_of(1, 1), row_of(2, 2)], [row_of(1, 0)]))
    systems.append(System([row_of(1, 1), row_of(0, 1)], [row_of(0, 0)], []))
    systems.append(System([row_of(1, 1), row_of(0, 1)], [], []))
    return systems


def all_sorts(seed):
    """Systems of all sorts that are steered and seen in all ways: wholly, in part, not at all."""
    chance = random.Random(seed)
    systems = some_systems(chance)
    systems += [system.turned() for system in systems]
    return systems + [parted_system(chance, sizes, ins, outs, 3) for sizes, ins, outs in PARTED]


def is_steered(system):
    """Whether all states can be come to from rest."""
    return reach_rows(system, system.states) == unit_grid(system.states)


def is_seen(system):
    """Whether no start but rest looks like rest."""
    return unseen_rows(system, system.states) == []


def some_weights(chance, many, most):
    """Weights of puts: numbers above 0."""
    return [told_as(Fraction(chance.randint(1, most), chance.randint(1, most))) for place in range(many)]


def nothing(system, steps):
    """So many rows of puts that are noughts."""
    return [row_of(*[0] * system.ins) for step in range(steps)]


def rest(system):
    return row_of(*[0] * system.states)


def check_same_looks(case, one, other, chance):
    """That both have the same looks from rest, along drawn puts and one by one."""
    case.assertEqual([one.ins, one.outs], [other.ins, other.outs])
    for turn in range(3):
        puts = some_grid(chance, one.states + other.states + 2, one.ins, 9)
        case.assertEqual(looks_along(one, rest(one), puts), looks_along(other, rest(other), puts))


def in_span(rows, wide, row):
    """Whether the row is in the span, reckoned with fractions."""
    return len(reduced_by_fractions(rows + [row], wide)) == len(reduced_by_fractions(rows, wide))


def over_move(system, row):
    """The row taken over move: at place j its dot with the numbers at place j of move's rows."""
    return [told_as(dot(row, [line[place] for line in system.move])) for place in range(system.states)]


def added_in(system, steps):
    """So many lists: what one unit of each put adds in one step, in two, and so on, reckoned with fractions."""
    lists = []
    rows = system.put
    for step in range(steps):
        lists.append(rows)
        rows = [row_as([dot(line, row) for line in system.move]) for row in rows]
    return lists


def told_in(system, steps):
    """So many lists: the rows whose dots with the start are its looks, those a step on, and so on, nothing put in."""
    lists = []
    rows = system.look
    for step in range(steps):
        lists.append(rows)
        rows = [over_move(system, row) for row in rows]
    return lists


def joined(lists):
    """What is in the lists, in one list."""
    return [thing for each in lists for thing in each]


def left_over(system, start, goal, steps):
    """The goal less the state to which nothing leads from the start in so many steps, reckoned with fractions."""
    state = start
    for step in range(steps):
        state = row_as([dot(line, state) for line in system.move])
    return row_as([value(mine) - value(yours) for mine, yours in zip(goal, state, strict=True)])


def check_keeps(case, system, wish, start, steps):
    """That the course from the start, with nothing put in, keeps the wish."""
    states = course(system, start, nothing(system, system.states + steps))
    for time in range(steps + 1):
        due = [sum((value(weight) * value(states[time + at][place]) for at, weight in enumerate(wish)), Fraction(0))
               for place in range(system.states)]
        case.assertEqual(states[time + system.states], row_as(due))


def check_not_steered(case, system, made):
    """That the making is refused with a price as of what isn't steered, the same one each time."""
    before = plain(system)
    prices = []
    for turn in range(2):
        with case.assertRaises(NotSteered) as caught:
            made()
        case.assertIs(type(caught.exception).__base__, SumError)
        price = caught.exception.price
        prices.append(list(price))
        check_row(case, price, system.states)
        case.assertNotEqual(price, rest(system))
        case.assertTrue(all(dot(price, row) == 0 for row in reach_rows(system, system.states)))
        price.append("spoilt")
    case.assertEqual(prices[0], prices[1])
    case.assertEqual(plain(system), before)


def check_price(case, system, start, goal, steps, price):
    """That the price shows that no puts lead from start to goal in just so many steps."""
    check_row(case, price, system.states)
    for rows in added_in(system, steps):
        case.assertEqual([dot(row, price) for row in rows], [0] * system.ins)
    case.assertEqual(dot(price, left_over(system, start, goal, steps)), 1)


def check_number(case, thing):
    case.assertIs(type(thing), tuple)
    case.assertEqual([type(part) for part in thing], [int, int])
    case.assertGreaterEqual(thing[1], 1)
    case.assertEqual(math.gcd(thing[0], thing[1]), 1)


def check_row(case, thing, many):
    case.assertIs(type(thing), list)
    case.assertEqual(len(thing), many)
    for number in thing:
        check_number(case, number)


def check_grid(case, thing, many, wide):
    case.assertIs(type(thing), list)
    case.assertEqual(len(thing), many)
    for row in thing:
        check_row(case, row, wide)


def fields(system):
    """The fields of a System in the order of the document."""
    return [system.move, system.put, system.look, system.states, system.ins, system.outs]


def is_system(thing):
    return hasattr(thing, "moved")


def lists_in(thing):
    """Every list in the thing, the thing itself and what lies in tuples and Systems too."""
    if is_system(thing):
        return [found for field in fields(thing) for found in lists_in(field)]
    found = []
    if isinstance(thing, list):
        found.append(thing)
    if isinstance(thing, (list, tuple)):
        for part in thing:
            found.extend(lists_in(part))
    return found


def plain(thing):
    """A copy of the thing that can be compared: Systems by their fields, lists and tuples by what is in them."""
    if is_system(thing):
        return ("a System", plain(fields(thing)))
    if isinstance(thing, list):
        return [plain(part) for part in thing]
    if isinstance(thing, tuple):
        return tuple([plain(part) for part in thing])
    return thing


def told(case, function, *arguments):
    """What the function tells, asked three times.

    Nothing that is handed in may change, the answers must be the same, and every list in them must be new: not one
    that was handed in, not one of another answer, and in one answer not twice the same.
    """
    before = plain(arguments)
    first = function(*arguments)
    kept = plain(first)
    second = function(*arguments)
    case.assertEqual(plain(arguments), before)
    case.assertEqual(plain(second), kept)
    new = [id(found) for found in lists_in(first) + lists_in(second)]
    case.assertEqual(len(new), len(set(new)), "a list was told twice")
    handed_in = [id(found) for found in lists_in(arguments)]
    case.assertEqual(set(new) & set(handed_in), set(), "a list that was handed in was told")
    for found in lists_in(second):
        found.append("spoilt")
    case.assertEqual(plain(first), kept)
    case.assertEqual(plain(function(*arguments)), kept)
    return first
