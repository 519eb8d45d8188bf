"""Bases: a system told by other numbers, and the rows by which what can be steered, or seen, stands first."""

from helmsum.equations import inverse
from helmsum.errors import NoFit
from helmsum.grids import grid_on, grid_times, grid_turned
from helmsum.reach import reach_rows
from helmsum.rows import unit_row
from helmsum.spans import free_places
from helmsum.systems import System
from helmsum.unseen import unseen_rows


def in_basis(system, rows):
    """The System that keeps, for each state, the numbers by which the rows add up to it; NoFit where some have none."""
    wide = system.states
    to_state = grid_turned(rows, wide)
    to_numbers = inverse(to_state)
    if to_numbers is None:
        raise NoFit()
    move = grid_times(grid_times(to_numbers, system.move, wide), to_state, wide)
    put = [grid_on(to_numbers, row) for row in system.put]
    return System(move, put, [grid_on(rows, row) for row in system.look])


def free_units(rows, wide):
    """The unit rows at the free places of a reduced list, rising."""
    return [unit_row(wide, place) for place in free_places(rows, wide)]


def steered_first(system):
    """(rows, many): rows that span all states, the first many of them what can be come to from rest."""
    reach = reach_rows(system, system.states)
    return (reach + free_units(reach, system.states), len(reach))


def seen_first(system):
    """(rows, many): rows that span all states, those behind the first many what is never seen."""
    unseen = unseen_rows(system, system.states)
    units = free_units(unseen, system.states)
    return (units + unseen, len(units))
