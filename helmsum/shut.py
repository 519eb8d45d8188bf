"""Shut off: rows that show that a goal is never come to from rest, and sums of the state that no put changes."""

from helmsum.equations import nulls
from helmsum.fewest import soonest
from helmsum.grids import grid_on, grid_times
from helmsum.ratios import NOUGHT
from helmsum.reach import reach_rows
from helmsum.rows import is_nought, nought_row, row_dot
from helmsum.spans import free_places


def taken_over(system, rows):
    """Each of the rows taken over move: at place j its dot with the numbers at place j of move's rows."""
    return grid_times(rows, system.move, system.states)


def unsteered(system):
    """(rows, weights): the dots of the rows with the state, and by which of them each moves whatever is put in."""
    reach = reach_rows(system, system.states)
    rows = nulls(reach, system.states)
    places = free_places(reach, system.states)
    # At each free place one of the rows has 1 and the others 0, so what a sum of them has there is that one's weight.
    return (rows, [[row[place] for place in places] for row in taken_over(system, rows)])


def brought_ahead(things, at):
    """The things, that at place at first."""
    return [things[at]] + things[:at] + things[at + 1:]


def shut_off(system, goal):
    """("in", the fewest steps, puts from rest to the goal) or ("never", rows, weights) that shut the goal off."""
    found = soonest(system, nought_row(system.states), goal, system.states)
    if found[0] is not None:
        return ("in", found[0], found[1])
    own = unsteered(system)
    # The goal isn't in the span that the rows shut off, so one of them has another dot than 0 with it.
    first = min([at for at, row in enumerate(own[0]) if row_dot(row, goal) != NOUGHT])
    weights = [brought_ahead(row, first) for row in brought_ahead(own[1], first)]
    return ("never", brought_ahead(own[0], first), weights)


def is_shut(system, goal, rows, weights):
    """Whether these rows and weights shut the goal off."""
    many = len(rows)
    if many == 0 or [len(row) for row in weights] != [many for row in rows]:
        return False
    if not all([is_nought(grid_on(system.put, row)) for row in rows]):
        return False
    if taken_over(system, rows) != grid_times(weights, rows, system.states):
        return False
    return row_dot(rows[0], goal) != NOUGHT
