"""Rows with told dots, sums of rows that come to a told one, and inverse grids."""

from helmsum.grids import grid_turned, unit_grid
from helmsum.ratios import NOUGHT, ONE, lowest, minus
from helmsum.rows import nought_row, unit_row
from helmsum.spans import free_places, leading, reduced, swept


def solved(rows, wide, due):
    """The row that has with each of the rows the dot due, and 0 at each free place; None where there is none."""
    found = swept([row + [wanted] for row, wanted in zip(rows, due)], wide + 1)
    if wide in found[1]:
        return None
    answer = nought_row(wide)
    for line, lead in zip(found[0], found[1]):
        answer[lead] = lowest(line[wide], line[lead])
    return answer


def solve(rows, wide, due):
    """("yes", the row with the dots due) or ("no", prices that show that there is none)."""
    answer = solved(rows, wide, due)
    if answer is not None:
        return ("yes", answer)
    # Where the columns don't add up to due, some prices have the dot 0 with each column and 1 with due.
    columns = grid_turned(rows, wide)
    return ("no", solved(columns + [due], len(rows), nought_row(wide) + [ONE]))


def null_at(rows, wide, at):
    """The row with 1 at the free place at, 0 at the other free ones and the dot 0 with each row of a reduced list."""
    answer = unit_row(wide, at)
    for lead, row in zip(leading(rows), rows):
        answer[lead] = minus(NOUGHT, row[at])
    return answer


def nulls(rows, wide):
    """For each free place the row with 1 there, 0 at the other free ones and the dot 0 with each of the rows."""
    basis = reduced(rows, wide)
    return [null_at(basis, wide, at) for at in free_places(basis, wide)]


def weights_for(rows, wide, row):
    """("in", weights by which the rows add up to the row) or ("out", a price that shows that none do)."""
    answer = solve(grid_turned(rows, wide), len(rows), row)
    return ("in" if answer[0] == "yes" else "out", answer[1])


def inverse(grid):
    """The grid that, times this one and this one times it, is the unit grid; None where there is none."""
    many = len(grid)
    joined = reduced([row + unit for row, unit in zip(grid, unit_grid(many))], 2 * many)
    if leading(joined) != list(range(many)):
        return None
    return [row[many:] for row in joined]
