"""Courses: the states and the looks that rows of puts lead along."""

from helmsum.grids import grid_turned
from helmsum.rows import nought_row


def course(system, start, puts):
    """The states: the start, and behind each row of puts the next one."""
    states = [list(start)]
    for row in puts:
        states.append(system.moved(states[-1], row))
    return states


def looks_along(system, start, puts):
    """The looks of the states of a course, one more than there are rows of puts."""
    return [system.seen(state) for state in course(system, start, puts)]


def pulses(system, steps):
    """So many grids: what each look (row) tells of one unit of each put (place), one step after it, two, and so on."""
    # One step after rest with one unit of a put the state is just that put's row.
    nothing = [nought_row(system.ins) for step in range(steps - 1)]
    runs = [looks_along(system, row, nothing) for row in system.put]
    return [grid_turned([run[time] for run in runs], system.outs) for time in range(steps)]
