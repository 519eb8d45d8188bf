"""What the tests share: made numbers, an outside way to reckon, and checks of what is told."""

import math
from fractions import Fraction

STRANGE = [
    None, True, False, 0, 3, -1, 1.5, float("nan"), "", "text", b"ab", [], (), {}, set(), object(), int, len,
    [1], (1,), (1, 1), [(1, 1)], [[(1, 1)]], {0: 1}, range(3), Fraction(1, 2), 1 + 2j,
]

NO_NUMBERS = [
    None, True, 0, 7, "1/2", 0.5, [], [1, 1], (), (1,), (1, 2, 3), (2, 4), (-3, 6), (0, 2), (6, 3), (1, 0), (0, 0),
    (1, -2), (-1, -2), (0, -1), (True, 1), (1, True), (False, 1), (1.0, 1), (1, 1.0), ("1", 1), (None, 1), (1, None),
    ([1], 1), ((1, 1), 1), (1, (1, 1)), Fraction(1, 2), {1: 1, 2: 1}, object(),
]


def value(number):
    """The worth of a number, reckoned with by Python's own fractions."""
    return Fraction(number[0], number[1])


def values(row):
    return [value(number) for number in row]


def told_as(fraction):
    """The number that is worth the fraction."""
    return (fraction.numerator, fraction.denominator)


def row_as(fractions):
    return [told_as(fraction) for fraction in fractions]


def row_of(*wholes):
    """The row of these whole numbers."""
    return [(whole, 1) for whole in wholes]


def dot(one, other):
    """The dot of two rows, as a fraction."""
    return sum((value(mine) * value(yours) for mine, yours in zip(one, other, strict=True)), Fraction(0))


def added_up(rows, weights, wide):
    """The rows, each times its number in weights, added up, as a row."""
    total = [Fraction(0)] * wide
    for row, weight in zip(rows, weights, strict=True):
        total = [old + value(weight) * value(number) for old, number in zip(total, row, strict=True)]
    return row_as(total)


def reduced_by_fractions(rows, wide):
    """The reduced list, reckoned step by step with fractions."""
    left = [values(row) for row in rows]
    done = []
    for place in range(wide):
        found = [line for line in left if line[place] != 0]
        if found:
            first = found[0]
            left = [line for line in left if line is not first]
            first = [number / first[place] for number in first]
            done = [lessened(line, first, place) for line in done] + [first]
            left = [lessened(line, first, place) for line in left]
    return [row_as(line) for line in done]


def lessened(line, by, place):
    return [mine - line[place] * yours for mine, yours in zip(line, by, strict=True)]


def some_number(chance, most):
    """A number of top and bottom up to most; often a whole one, or 0."""
    sort = chance.randrange(6)
    if sort == 0:
        return (0, 1)
    if sort == 1:
        return (chance.randint(-most, most), 1)
    return told_as(Fraction(chance.randint(-most, most), chance.randint(1, most)))


def some_row(chance, many, most):
    return [some_number(chance, most) for place in range(many)]


def some_grid(chance, many, wide, most):
    return [some_row(chance, wide, most) for place in range(many)]


def some_parts(chance, states, ins, outs, most):
    """What a System of these sizes is made of: move, put, look."""
    return (
        some_grid(chance, states, states, most), some_grid(chance, ins, states, most),
        some_grid(chance, outs, states, most),
    )


def check_number(case, thing):
    case.assertIs(type(thing), tuple)
    case.assertEqual([type(part) for part in thing], [int, int])
    case.assertGreaterEqual(thing[1], 1)
    case.assertEqual(math.gcd(thing[0], thing[1]), 1)


def check_row(case, thing, many):
    case.assertIs(type(thing), list)
    case.assertEqual(len(thing), many)
    for number in thing:
        check_number(case, number)


def check_grid(case, thing, many, wide):
    case.assertIs(type(thing), list)
    case.assertEqual(len(thing), many)
    for row in thing:
        check_row(case, row, wide)


def fields(system):
    """The fields of a System in the order of the document."""
    return [system.move, system.put, system.look, system.states, system.ins, system.outs]


def is_system(thing):
    return hasattr(thing, "moved")


def lists_in(thing):
    """Every list in the thing, the thing itself and what lies in tuples and Systems too."""
    if is_system(thing):
        return [found for field in fields(thing) for found in lists_in(field)]
    found = []
    if isinstance(thing, list):
        found.append(thing)
    if isinstance(thing, (list, tuple)):
        for part in thing:
            found.extend(lists_in(part))
    return found


def plain(thing):
    """A copy of the thing that can be compared: Systems by their fields, lists and tuples by what is in them."""
    if is_system(thing):
        return ("a System", plain(fields(thing)))
    if isinstance(thing, list):
        return [plain(part) for part in thing]
    if isinstance(thing, tuple):
        return tuple([plain(part) for part in thing])
    return thing


def told(case, function, *arguments):
    """What the function tells, asked three times.

    Nothing that is handed in may change, the answers must be the same, and every list in them must be new: not one
    that was handed in, not one of another answer, and in one answer not twice the same.
    """
    before = plain(arguments)
    first = function(*arguments)
    kept = plain(first)
    second = function(*arguments)
    case.assertEqual(plain(arguments), before)
    case.assertEqual(plain(second), kept)
    new = [id(found) for found in lists_in(first) + lists_in(second)]
    case.assertEqual(len(new), len(set(new)), "a list was told twice")
    handed_in = [id(found) for found in lists_in(arguments)]
    case.assertEqual(set(new) & set(handed_in), set(), "a list that was handed in was told")
    for found in lists_in(second):
        found.append("spoilt")
    case.assertEqual(plain(first), kept)
    case.assertEqual(plain(function(*arguments)), kept)
    return first
