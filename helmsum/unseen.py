"""Unseen: the starts that no looks tell from rest."""

from helmsum.equations import nulls
from helmsum.reach import reach_rows
from helmsum.spans import reduced


def unseen_rows(system, steps):
    """The reduced list whose span is all starts whose first so many looks, nothing put in, are all 0."""
    # What a look tells of the start is its row taken over move: what that put of the turned system adds.
    told = reach_rows(system.turned(), steps)
    return reduced(nulls(told, system.states), system.states)
