"""Parts: what of a system can be steered and what can be seen, and the smallest system with the same looks."""

from helmsum.bases import in_basis, seen_first, steered_first
from helmsum.equations import nulls
from helmsum.grids import unit_grid
from helmsum.reach import reach_rows
from helmsum.spans import new_places
from helmsum.systems import System
from helmsum.unseen import unseen_rows


def first_places(rows, many):
    """The rows with their first many places alone."""
    return [row[:many] for row in rows]


def part_by(system, found):
    """The system in the basis of found, (rows, many), with the first many places of the state alone."""
    whole = in_basis(system, found[0])
    many = found[1]
    return System(first_places(whole.move[:many], many), first_places(whole.put, many), first_places(whole.look, many))


def steered_part(system):
    """The System of what can be come to from rest alone."""
    return part_by(system, steered_first(system))


def seen_part(system):
    """The System of what is seen alone."""
    return part_by(system, seen_first(system))


def smallest(system):
    """The System with the same looks from rest and the fewest numbers in its state."""
    return seen_part(steered_part(system))


def adding_to(ahead, rows, wide):
    """Those of the rows that aren't in the span of what stands ahead of them, the list ahead and then the rows."""
    many = len(ahead)
    return [rows[place - many] for place in new_places(ahead + rows, wide) if place >= many]


def four_parts(system):
    """Four lists that span all: both come to and unseen, more that is come to, more that is unseen, all else."""
    wide = system.states
    reach = reach_rows(system, wide)
    unseen = unseen_rows(system, wide)
    # What is in both spans is what has the dot 0 with each row that shuts off the one or the other.
    both = nulls(nulls(reach, wide) + nulls(unseen, wide), wide)
    steered = adding_to(both, reach, wide)
    hidden = adding_to(both, unseen, wide)
    return (both, steered, hidden, adding_to(both + steered + hidden, unit_grid(wide), wide))
