"""Grids: lists of rows of one length, their width."""

from helmsum.rows import row_dot, unit_row


def grid_on(grid, row):
    """The row of the dots of the grid's rows with a row."""
    return [row_dot(line, row) for line in grid]


def grid_turned(grid, wide):
    """The grid of width wide with rows and columns changed about."""
    return [[line[place] for line in grid] for place in range(wide)]


def grid_times(one, other, wide):
    """The product of two grids; wide is the width of the other, which may have no rows."""
    columns = grid_turned(other, wide)
    return [grid_on(columns, line) for line in one]


def unit_grid(many):
    """The grid of so many unit rows, the 1 at place i in row i."""
    return [unit_row(many, at) for at in range(many)]


def flat(lists):
    """What is in the lists, in one list."""
    joined = []
    for each in lists:
        joined.extend(each)
    return joined


def cut(row, many, wide):
    """The row, of many times wide numbers, cut into so many rows of wide numbers."""
    return [row[turn * wide:(turn + 1) * wide] for turn in range(many)]
