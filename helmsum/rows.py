"""Rows: lists of numbers."""

from helmsum.ratios import NOUGHT, ONE, common_multiple, is_number, lowest, minus, plus, times


def is_row(thing, many):
    """Whether the thing, whatever it is, is a list of so many numbers."""
    if not isinstance(thing, list) or len(thing) != many:
        return False
    return all([is_number(value) for value in thing])


def row_plus(one, other):
    """The sum of two rows, place by place."""
    return [plus(mine, yours) for mine, yours in zip(one, other)]


def row_minus(one, other):
    """The one row less the other, place by place."""
    return [minus(mine, yours) for mine, yours in zip(one, other)]


def row_times(by, row):
    """Each number of the row times the number by."""
    return [times(by, value) for value in row]


def common_bottom(row):
    """The least whole number above 0 by which the row becomes a row of whole numbers."""
    return common_multiple([value[1] for value in row])


def tops_over(row, bottom):
    """The whole numbers that, each by bottom, are the row; bottom is a multiple of its common bottom."""
    return [value[0] * (bottom // value[1]) for value in row]


def row_dot(one, other):
    """The sum of the products of two rows, 0 of rows without numbers."""
    # Over one bottom each, only the sum has to be brought to lowest terms, not every step towards it.
    one_bottom = common_bottom(one)
    other_bottom = common_bottom(other)
    pairs = list(zip(tops_over(one, one_bottom), tops_over(other, other_bottom)))
    return lowest(sum([mine * yours for mine, yours in pairs]), one_bottom * other_bottom)


def nought_row(many):
    """A row of so many noughts."""
    return [NOUGHT for place in range(many)]


def unit_row(many, at):
    """A row of so many numbers, 1 at place at and noughts else."""
    return [ONE if place == at else NOUGHT for place in range(many)]


def is_nought(row):
    """Whether all numbers of the row are 0."""
    return all([value == NOUGHT for value in row])
