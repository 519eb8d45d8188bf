"""Wishes: puts that go by the state, and the sum that each course of a system keeps."""

from helmsum.grids import grid_times, grid_turned
from helmsum.ratios import lowest
from helmsum.rows import row_plus
from helmsum.systems import System
from helmsum.wholes import whole_grid, whole_on


def closed(system, rows):
    """The System in which to what is put in, for each put, the dot of its row and the state is added."""
    fed_back = grid_times(grid_turned(system.put, system.states), rows, system.states)
    move = [row_plus(line, more) for line, more in zip(system.move, fed_back)]
    return System(move, system.put, system.look)


def with_main(lines, by):
    """The rows of whole numbers with by added to each number on the main line."""
    return [[value + by if at == place else value for at, value in enumerate(line)] for place, line in enumerate(lines)]


def own_wish(system):
    """The row by which, nothing put in, each state is summed up to the one as many steps on as it has numbers."""
    many = system.states
    move = whole_grid(system.move)
    columns = [[0 for place in range(many)] for turn in range(many)]
    last = 1
    bottom = 1
    wish = []
    for turn in range(1, many + 1):
        # Reckoned with whole numbers: those of move are over one bottom, so each turn is over one more of it.
        columns = [whole_on(move[0], column) for column in with_main(columns, last)]
        last = -sum([column[place] for place, column in enumerate(columns)]) // turn
        bottom = bottom * move[1]
        wish.append(lowest(-last, bottom))
    return list(reversed(wish))
