"""Steering: puts that go by the state, so that each course keeps a wish."""

from helmsum.equations import nulls
from helmsum.errors import NotSteered
from helmsum.grids import grid_turned
from helmsum.ratios import NOUGHT, ONE
from helmsum.reach import moved_rows, reach_rows
from helmsum.rows import nought_row, row_minus, row_times, unit_row
from helmsum.shut import taken_over
from helmsum.spans import new_places, reduced
from helmsum.wishes import closed


def refuse_unsteered(system):
    """Refuses a system of which not all states can be come to from rest."""
    reach = reach_rows(system, system.states)
    if len(reach) < system.states:
        raise NotSteered(nulls(reach, system.states)[0])


def leading_out(system, states):
    """Puts that lead from the last of the states out of their span: nothing, where that does, else one unit of one."""
    steps = states + moved_rows(system, states[-1:])
    # Where nothing and no put lead out, a step stays in the span, whatever is put in: it is all that is come to.
    first = min([place for place in new_places(steps + system.put, system.states) if place >= len(states)])
    if first < len(steps):
        return nought_row(system.ins)
    return unit_row(system.ins, first - len(steps))


def chain(system):
    """(states, puts): rest and n states from it that span all, and what is put in at each, at the last one nothing."""
    states = [nought_row(system.states)]
    puts = []
    for step in range(system.states):
        puts.append(leading_out(system, states))
        states.append(system.moved(states[-1], puts[-1]))
    return (states, puts + [nought_row(system.ins)])


def amiss(system, row, wish):
    """The row whose dot with a state is by how much the row's dots along the course from there don't keep the wish."""
    told = row
    for weight in reversed(wish):
        told = row_minus(taken_over(system, [told])[0], row_times(weight, row))
    return told


def steered(system, wish):
    """For each put the row by which it goes by the state, so that each course keeps the wish; or NotSteered."""
    refuse_unsteered(system)
    wide = system.states
    found = chain(system)
    last = [[ONE if step == wide else NOUGHT] for step in range(wide + 1)]
    lines = [state + given + end for state, given, end in zip(found[0], found[1], last)]
    # Of the states behind rest each put has a row that tells what is put in there, and one tells 1 of the last alone.
    sides = grid_turned([line[wide:] for line in reduced(lines[1:], wide + system.ins + 1)], system.ins + 1)
    rows = sides[:-1]
    # By these rows the first put alone leads through all of the states, so what goes amiss is mended by it.
    mend = amiss(closed(system, rows), sides[-1], wish)
    return [row_minus(row, row_times(by, mend)) for row, by in zip(rows, found[1][0])]
