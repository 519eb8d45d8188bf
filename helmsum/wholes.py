"""Grids as (lines, bottom): rows of whole numbers that, each by the one bottom, are the grid's numbers.

Who reckons long on end with a whole grid spares it being brought to lowest terms number by number at each step.
"""

from helmsum.grids import flat
from helmsum.ratios import common_divisor, lowest
from helmsum.rows import common_bottom, tops_over


def whole_grid(grid):
    """The grid as (lines, bottom)."""
    bottom = common_bottom(flat(grid))
    return ([tops_over(row, bottom) for row in grid], bottom)


def main_line(row):
    """The grid with these numbers on its main line and noughts else, as (lines, bottom)."""
    bottom = common_bottom(row)
    tops = tops_over(row, bottom)
    return ([[top if at == place else 0 for at, top in enumerate(tops)] for place in range(len(tops))], bottom)


def lessened(lines, bottom):
    """The same grid over the least bottom."""
    divisor = bottom
    for value in flat(lines):
        divisor = common_divisor(value, divisor)
    return ([[value // divisor for value in line] for line in lines], bottom // divisor)


def told_grid(whole):
    """The grid of numbers that (lines, bottom) is."""
    return [[lowest(value, whole[1]) for value in line] for line in whole[0]]


def whole_dot(one, other):
    """The sum of the products of two rows of whole numbers."""
    return sum([mine * yours for mine, yours in zip(one, other)])


def whole_on(lines, tops):
    """The dots of rows of whole numbers with one."""
    return [whole_dot(line, tops) for line in lines]


def on_state(whole, state):
    """The row of the dots of the rows of (lines, bottom) with a row of numbers."""
    bottom = common_bottom(state)
    return [lowest(value, whole[1] * bottom) for value in whole_on(whole[0], tops_over(state, bottom))]
