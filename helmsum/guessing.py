"""Guessing: what the state of a system is, told by its looks alone, and a system steered to rest by them."""

from helmsum.errors import NotSeen
from helmsum.grids import grid_on, grid_turned
from helmsum.rows import nought_row, row_minus, row_plus
from helmsum.steering import steered
from helmsum.unseen import unseen_rows


class Guesser:
    """A guess of a system's state, which is right behind as many takings as the state has numbers."""

    def __init__(self, system):
        unseen = unseen_rows(system, system.states)
        if len(unseen) > 0:
            raise NotSeen(unseen[0])
        self.system = system
        self.state = nought_row(system.states)
        # By how much the guess is wrong moves by itself, as the turned system does when it is steered to rest.
        rows = steered(system.turned(), nought_row(system.states))
        self.mends = grid_turned(rows, system.states)

    def guess(self):
        """The state as it is guessed."""
        return list(self.state)

    def take(self, puts, looks):
        """Brings the guess a step on by the puts of the step and the looks of the state ahead of it."""
        wrong = row_minus(self.system.seen(self.state), looks)
        self.state = row_plus(self.system.moved(self.state, puts), grid_on(self.mends, wrong))


class Pilot:
    """Steers a system to rest by its looks alone, in twice as many steps as the state has numbers."""

    def __init__(self, system):
        self.rows = steered(system, nought_row(system.states))
        self.guesser = Guesser(system)

    def put_for(self, looks):
        """The puts for the step from the state with these looks."""
        puts = grid_on(self.rows, self.guesser.guess())
        self.guesser.take(puts, looks)
        return puts
