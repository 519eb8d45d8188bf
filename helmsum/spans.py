"""Spans: what sums of some rows of one width, each times a number, can be."""

from helmsum.grids import grid_turned
from helmsum.ratios import NOUGHT, lowest
from helmsum.rows import common_bottom, tops_over


def leading_place(row):
    """The first place of a row, which isn't nought, at which it isn't 0."""
    return min([place for place, value in enumerate(row) if value != NOUGHT])


def leading(rows):
    """The leading places of a reduced list."""
    return [leading_place(row) for row in rows]


def free_places(rows, wide):
    """The places from 0 to wide - 1 that aren't leading places of a reduced list, rising."""
    leads = leading(rows)
    return [place for place in range(wide) if place not in leads]


def first_with(lines, begin, place):
    """The number of the first line from begin on that isn't 0 at the place, None where there is none."""
    for at in range(begin, len(lines)):
        if lines[at][place] != 0:
            return at
    return None


def brought_up(lines, at, to):
    """The lines with those at and to changed about."""
    swapped = list(lines)
    swapped[to] = lines[at]
    swapped[at] = lines[to]
    return swapped


def cleared(lines, at, place, before):
    """The lines with 0 at the place in all but line at; before is what the last line so used had at its place."""
    # Each number here is the measure (determinant) of a part of the first lines, and so is what is left behind the
    # division: before divides without a rest, and no fraction has to be brought to lowest terms on the way.
    used = lines[at]
    by = used[place]
    swept = [[(by * mine - line[place] * yours) // before for mine, yours in zip(line, used)] for line in lines]
    swept[at] = used
    return swept


def swept(rows, wide):
    """(lines, leads): the reduced list, each row times some whole number so that all are whole, and where it leads."""
    lines = [tops_over(row, common_bottom(row)) for row in rows]
    leads = []
    before = 1
    for place in range(wide):
        many = len(leads)
        at = first_with(lines, many, place)
        if at is not None:
            lines = cleared(brought_up(lines, at, many), many, place, before)
            before = lines[many][place]
            leads.append(place)
    return (lines[:len(leads)], leads)


def reduced(rows, wide):
    """The one list of rows with the same span that is reduced: leading 1s that rise, and 0 above and below them."""
    found = swept(rows, wide)
    return [[lowest(top, line[lead]) for top in line] for line, lead in zip(found[0], found[1])]


def new_places(rows, wide):
    """The places in the list of those rows that aren't in the span of the rows ahead of them."""
    return swept(grid_turned(rows, wide), len(rows))[1]
