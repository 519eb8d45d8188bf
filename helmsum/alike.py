"""Alike: systems with the same looks from rest, what shows how small they can be, and the way from one to another."""

from helmsum.courses import pulses
from helmsum.equations import inverse
from helmsum.errors import NoFit
from helmsum.grids import flat, grid_turned
from helmsum.joins import side_by_side
from helmsum.parts import first_places, smallest
from helmsum.reach import additions, moved_rows
from helmsum.spans import new_places, reduced


def first_unlike(one, other):
    """The first place at which two lists of one length are unlike, None where there is none."""
    for place, pair in enumerate(zip(one, other)):
        if pair[0] != pair[1]:
            return place
    return None


def apart(one, other):
    """None where both have the same looks from rest, else (time, look, put) of the first pulse that is unlike."""
    if one.ins != other.ins or one.outs != other.outs:
        raise NoFit()
    # Pulses that are alike as long as both states have numbers together are alike for ever.
    steps = one.states + other.states
    mine = pulses(one, steps)
    yours = pulses(other, steps)
    time = first_unlike(mine, yours)
    if time is None:
        return None
    look = first_unlike(mine[time], yours[time])
    return (time, look, first_unlike(mine[time][look], yours[time][look]))


def adding_puts(system):
    """The (time, put) of those additions that aren't in the span of the ones ahead of them."""
    places = new_places(flat(additions(system, system.states)), system.states)
    return [(place // system.ins, place % system.ins) for place in places]


def size_paper(system):
    """(rows, columns, grid): looks and puts with times, and the inverse of their pulses, which shows how small."""
    small = smallest(system)
    rows = adding_puts(small.turned())
    columns = adding_puts(small)
    known = pulses(small, 2 * small.states)
    grid = [[known[row[0] + column[0]][row[1]][column[1]] for column in columns] for row in rows]
    return (rows, columns, inverse(grid))


def pairs_moved(one, other, rows):
    """What a step of nothing makes of rows that are each a state of the one and then a state of the other."""
    wide = one.states
    return side_by_side(moved_rows(one, first_places(rows, wide)), moved_rows(other, [row[wide:] for row in rows]))


def bridge(one, other):
    """The grid that, on a state of the one, tells the state of the other that looks alike; None where none does."""
    if apart(one, other) is not None:
        return None
    wide = one.states
    put = side_by_side(one.put, other.put)
    rows = []
    # The same puts lead from rest to states that look alike; in so many steps they lead the one to each unit row.
    for step in range(wide):
        rows = reduced(put + pairs_moved(one, other, rows), 2 * wide)
    return grid_turned([row[wide:] for row in rows], wide)
