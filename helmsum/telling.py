"""Telling: what looks tell of the start."""

from helmsum.courses import looks_along
from helmsum.equations import solve
from helmsum.grids import cut, flat
from helmsum.reach import additions, come
from helmsum.rows import nought_row, row_minus, row_times
from helmsum.spans import leading
from helmsum.unseen import unseen_rows


def told_by(system, asked, steps):
    """("from", weights of looks that tell the dot of asked and the start) or ("alike", a start that shows none do)."""
    # Looks add up to a sum of the start just as puts of the turned system lead from rest to it, the first ones last.
    answer = come(system.turned(), nought_row(system.states), asked, steps)
    if answer[0] == "never":
        return ("alike", answer[1])
    return ("from", list(reversed(answer[1])))


def without(state, rows):
    """The state with as much of each row of a reduced list taken away as makes it 0 at the leading places."""
    for lead, row in zip(leading(rows), rows):
        state = row_minus(state, row_times(state[lead], row))
    return state


def starts(system, puts, looks):
    """("any", a start with these looks, the rows that may be added to it) or ("none", weights that show it)."""
    steps = len(looks)
    of_rest = looks_along(system, nought_row(system.states), puts[:-1])
    of_start = [row_minus(mine, yours) for mine, yours in zip(looks, of_rest)]
    answer = solve(flat(additions(system.turned(), steps)), system.states, flat(of_start))
    if answer[0] == "no":
        return ("none", cut(answer[1], steps, system.outs))
    rows = unseen_rows(system, steps)
    return ("any", without(answer[1], rows), rows)
