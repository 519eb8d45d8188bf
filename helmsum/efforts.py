"""Efforts: the puts that lead to a goal with the least effort, and the prices that show that none have less."""

from helmsum.courses import course
from helmsum.equations import solve
from helmsum.grids import flat, grid_on, grid_times, grid_turned
from helmsum.ratios import parted, times, under
from helmsum.reach import additions, come, lacking
from helmsum.rows import row_dot


def squared(value):
    """The number times itself."""
    # No whole number above 1 divides both, so none divides both squares.
    return (value[0] * value[0], value[1] * value[1])


def effort(weights, puts):
    """The sum, over all rows and places, of the weight at that place times the put times the put."""
    return row_dot(flat([weights for row in puts]), [squared(value) for value in flat(puts)])


def parted_by(weights, row):
    """Each number of the row by the weight at its place."""
    return [parted(value, weight) for value, weight in zip(row, weights)]


def puts_at(price, weights, lists):
    """The rows of puts that the price asks for, lists what each put adds in one step, in two, and so on."""
    return [parted_by(weights, grid_on(rows, price)) for rows in reversed(lists)]


def led_to(weights, lists, wide):
    """The grid that, on a price, is the state to which the puts that the price asks for lead from rest."""
    rows = flat(lists)
    all_weights = flat([weights for each in lists])
    columns = grid_turned(rows, wide)
    return grid_times([parted_by(all_weights, column) for column in columns], rows, wide)


def least(system, weights, start, goal, steps):
    """("puts", effort, puts of the least effort from start to goal, their price) or ("never", a price as come's)."""
    lists = additions(system, steps)
    due = lacking(system, start, goal, steps)
    # Prices lead to all that puts lead to: what has the dot 0 with all that they lead to asks for no put at all.
    answer = solve(led_to(weights, lists, system.states), system.states, due)
    if answer[0] == "no":
        return come(system, start, goal, steps)
    price = answer[1]
    # Each weight times its put is the dot of the price with what it adds, and what all of them add is due.
    return ("puts", row_dot(price, due), puts_at(price, weights, lists), price)


def is_least(system, weights, start, goal, puts, price):
    """Whether these puts lead from start to goal and the price shows that none have less effort."""
    if course(system, start, puts)[-1] != goal:
        return False
    turned = system.turned()
    for row in reversed(puts):
        if [times(weight, value) for weight, value in zip(weights, row)] != turned.seen(price):
            return False
        price = grid_on(turned.move, price)
    return True


def within(system, weights, start, goal, most, limit):
    """(the fewest steps, at most so many, whose least effort isn't above the limit, what least tells) or None."""
    for steps in range(most + 1):
        answer = least(system, weights, start, goal, steps)
        if answer[0] == "puts" and not under(limit, answer[1]):
            return (steps, answer)
    return None
