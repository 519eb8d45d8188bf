"""Costs: what states and puts cost, and the puts that cost least."""

from helmsum.courses import course
from helmsum.efforts import effort
from helmsum.grids import grid_turned
from helmsum.ratios import plus
from helmsum.rows import row_dot
from helmsum.spans import cleared
from helmsum.wholes import lessened, main_line, on_state, told_grid, whole_grid, whole_on


class Costs:
    """What the states and puts of a system cost by weights, the last state by weights of its own."""

    def __init__(self, system, state_weights, put_weights, last_weights):
        self.system = system
        self.state_weights = list(state_weights)
        self.put_weights = list(put_weights)
        self.last_weights = list(last_weights)
        # One for each number of rows left, (worth, steering), reckoned when it is first asked for.
        self.known = [(main_line(self.last_weights), ([], 1))]

    def cost(self, start, puts):
        """The cost of rows of puts from a start."""
        states = course(self.system, start, puts)
        ahead = plus(effort(self.put_weights, puts), effort(self.state_weights, states[:-1]))
        return plus(ahead, effort(self.last_weights, states[-1:]))

    def step_cost(self, behind):
        """The grid of what puts and a state, in one row, cost in a step and by the worth behind it."""
        system = self.system
        # The next state is these rows, each times its put or its number of the state, added up.
        sides = whole_grid(system.put + grid_turned(system.move, system.states))
        later = [whole_on(sides[0], whole_on(behind[0], side)) for side in sides[0]]
        bottom = sides[1] * sides[1] * behind[1]
        own = main_line(self.put_weights + self.state_weights)
        lines = [[value * own[1] for value in line] for line in later]
        for place, line in enumerate(own[0]):
            lines[place][place] = lines[place][place] + line[place] * bottom
        return (lines, bottom * own[1])

    def ahead_of(self, behind):
        """(worth, steering) with one row of puts more than the worth behind has."""
        whole = self.step_cost(behind)
        ins = self.system.ins
        lines = whole[0]
        by = 1
        for place in range(ins):
            # Where puts are cleared away, what is left is the cost with the cheapest ones. The number used for it is
            # never 0: all put weights are above 0, and no worth is below.
            lines = cleared(lines, place, place, by)
            by = lines[place][place]
        lines = [line[ins:] for line in lines]
        return (lessened(lines[ins:], by * whole[1]), (lines[:ins], -by))

    def with_left(self, left):
        """(worth, steering) of left rows of puts; steering, on a state, are the puts of the first of them."""
        while len(self.known) <= left:
            self.known.append(self.ahead_of(self.known[-1][0]))
        return self.known[left]

    def worth(self, left):
        """The grid that, on a state, has with it as dot the least cost of left rows of puts from there."""
        return told_grid(self.with_left(left)[0])

    def due(self, state, left):
        """The first row of the cheapest left rows of puts from a state."""
        return on_state(self.with_left(left)[1], state)

    def best(self, start, steps):
        """(the least cost of so many rows of puts from a start, these rows)."""
        puts = []
        state = start
        for done in range(steps):
            puts.append(self.due(state, steps - done))
            state = self.system.moved(state, puts[-1])
        return (row_dot(start, on_state(self.with_left(steps)[0], start)), puts)
