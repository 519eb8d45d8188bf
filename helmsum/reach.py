"""Reach: the states to which puts lead, and the puts that lead there or a price that shows that none do."""

from helmsum.courses import course
from helmsum.equations import weights_for
from helmsum.grids import cut, flat, grid_on
from helmsum.rows import nought_row, row_minus
from helmsum.spans import reduced


def moved_rows(system, rows):
    """What a step of nothing makes of each of the rows."""
    return [grid_on(system.move, row) for row in rows]


def additions(system, steps):
    """So many lists: what one unit of each put adds to the state in one step, in two, and so on."""
    lists = []
    rows = system.put
    for step in range(steps):
        lists.append(rows)
        rows = moved_rows(system, rows)
    return lists


def reach_grown(system, steps):
    """The reduced lists of what is come to in 0 steps, in 1, and so on, up to so many or the last that is more."""
    lists = [[]]
    while len(lists) <= steps:
        rows = reduced(system.put + moved_rows(system, lists[-1]), system.states)
        # A step that adds nothing is followed by none that does.
        if len(rows) == len(lists[-1]):
            return lists
        lists.append(rows)
    return lists


def reach_rows(system, steps):
    """The reduced list whose span is all states to which puts lead from rest in just so many steps."""
    return reach_grown(system, steps)[-1]


def nothing_for(system, steps):
    """So many rows of puts that are nothing."""
    return [nought_row(system.ins) for step in range(steps)]


def lacking(system, start, goal, steps):
    """The goal less the state to which nothing leads from the start in so many steps."""
    return row_minus(goal, course(system, start, nothing_for(system, steps))[-1])


def come(system, start, goal, steps):
    """("puts", rows of puts from start to goal in so many steps) or ("never", a price that shows that none do)."""
    # The last of the steps reach all that all of them reach, so what is put in ahead of these may be nothing.
    used = len(reach_grown(system, steps)) - 1
    rows = flat(additions(system, used))
    answer = weights_for(rows, system.states, lacking(system, start, goal, steps))
    if answer[0] == "out":
        return ("never", answer[1])
    latest_first = cut(answer[1], used, system.ins)
    return ("puts", nothing_for(system, steps - used) + list(reversed(latest_first)))
