"""Joins: two systems put together into one, whose state is that of the one and then that of the other."""

from helmsum.errors import NoFit, TooMany
from helmsum.grids import grid_times, grid_turned
from helmsum.rows import nought_row
from helmsum.systems import MOST_LOOKS, MOST_PUTS, MOST_STATES, System


def fed(giver, taker):
    """What the giver's state adds to the taker's in a step, the giver's looks being the taker's puts."""
    return grid_times(grid_turned(taker.put, taker.states), giver.look, giver.states)


def unfed(giver, taker):
    """What the giver's state adds to the taker's where nothing goes from the one to the other."""
    return [nought_row(giver.states) for place in range(taker.states)]


def side_by_side(left, right):
    """Each row of the one list followed by the row of the other at its place."""
    return [mine + yours for mine, yours in zip(left, right)]


def move_of_both(one, other, into_one, into_other):
    """The move of both, into_one what the other's state adds to the one's, into_other the other way round."""
    return side_by_side(one.move, into_one) + side_by_side(into_other, other.move)


def widened_behind(rows, other):
    """Rows of the one's width, with noughts for the other's state."""
    return [row + nought_row(other.states) for row in rows]


def widened_ahead(one, rows):
    """Rows of the other's width, with noughts for the one's state."""
    return [nought_row(one.states) + row for row in rows]


def refuse_too_many(one, other, ins, outs):
    """Refuses more puts or looks than a System has, then more numbers in the state."""
    if ins > MOST_PUTS:
        raise TooMany(MOST_PUTS)
    if outs > MOST_LOOKS:
        raise TooMany(MOST_LOOKS)
    if one.states + other.states > MOST_STATES:
        raise TooMany(MOST_STATES)


def in_row(one, other):
    """The one's looks are the other's puts; puts are the one's, looks the other's."""
    if one.outs != other.ins:
        raise NoFit()
    refuse_too_many(one, other, one.ins, other.outs)
    move = move_of_both(one, other, unfed(other, one), fed(one, other))
    return System(move, widened_behind(one.put, other), widened_ahead(one, other.look))


def beside(one, other):
    """Puts are the one's, then the other's, looks likewise."""
    refuse_too_many(one, other, one.ins + other.ins, one.outs + other.outs)
    move = move_of_both(one, other, unfed(other, one), unfed(one, other))
    put = widened_behind(one.put, other) + widened_ahead(one, other.put)
    return System(move, put, widened_behind(one.look, other) + widened_ahead(one, other.look))


def added(one, other):
    """The puts go into both; looks are both added."""
    if one.ins != other.ins or one.outs != other.outs:
        raise NoFit()
    refuse_too_many(one, other, one.ins, one.outs)
    move = move_of_both(one, other, unfed(other, one), unfed(one, other))
    return System(move, side_by_side(one.put, other.put), side_by_side(one.look, other.look))


def ringed(one, other):
    """The one's puts are what is put in and the other's looks, added; its looks, which are told, the other's puts."""
    if one.ins != other.outs or one.outs != other.ins:
        raise NoFit()
    refuse_too_many(one, other, one.ins, one.outs)
    move = move_of_both(one, other, fed(other, one), fed(one, other))
    return System(move, widened_behind(one.put, other), widened_behind(one.look, other))
