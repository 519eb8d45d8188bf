"""Systems: a state that told sums of it and of what is put in bring a step on, and looks at it."""

from helmsum.errors import NoThing, TooMany, Wrong
from helmsum.grids import grid_on, grid_turned
from helmsum.rows import is_row, row_dot

MOST_STATES = 8
MOST_PUTS = 4
MOST_LOOKS = 4


def want_list(thing, at, most):
    """Refuses what, handed in at place at, is no list or one of more than most."""
    if not isinstance(thing, list):
        raise Wrong(at)
    if len(thing) > most:
        raise TooMany(most)


def copied_rows(things, wide):
    """A copy of a list of rows of this width, rows too; refuses the first place at which there is none."""
    for place, thing in enumerate(things):
        if not is_row(thing, wide):
            raise NoThing(place)
    return [list(row) for row in things]


class System:
    """What moves a state, what each put adds to it and what each look tells of it. It is never changed."""

    def __init__(self, move, put, look):
        want_list(move, 0, MOST_STATES)
        self.move = copied_rows(move, len(move))
        self.states = len(self.move)
        want_list(put, 1, MOST_PUTS)
        self.put = copied_rows(put, self.states)
        self.ins = len(self.put)
        want_list(look, 2, MOST_LOOKS)
        self.look = copied_rows(look, self.states)
        self.outs = len(self.look)

    def moved(self, state, puts):
        """The next state."""
        # What the puts add goes into the same dot, so that each place is brought to lowest terms once.
        columns = grid_turned(self.put, self.states)
        return [row_dot(line + column, state + puts) for line, column in zip(self.move, columns)]

    def seen(self, state):
        """The looks of a state."""
        return grid_on(self.look, state)

    def turned(self):
        """The System with puts and looks changed about and the move turned."""
        return System(grid_turned(self.move, self.states), self.look, self.put)
