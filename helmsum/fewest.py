"""Fewest: in how few steps puts lead from a start to a goal."""

from helmsum.reach import come


def soonest(system, start, goal, most):
    """(the fewest steps from start to goal, puts, prices of all lesser counts); (None, [], prices) beyond most."""
    prices = []
    for steps in range(most + 1):
        answer = come(system, start, goal, steps)
        if answer[0] == "puts":
            return (steps, answer[1], prices)
        prices.append(answer[1])
    return (None, [], prices)
