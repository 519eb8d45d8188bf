"""The refusals. Each stands straight under SumError, so that one handler can take all or just one."""


class SumError(ValueError):
    """Whatever Helmsum refuses."""


class Wrong(SumError):
    """The argument at place `at` isn't what is wanted there."""

    def __init__(self, at):
        self.at = at


class NoThing(SumError):
    """The list that was handed in has at place `at` no thing of the wanted kind."""

    def __init__(self, at):
        self.at = at


class TooMany(SumError):
    """There are more than `most`."""

    def __init__(self, most):
        self.most = most


class NoNumber(SumError):
    """No number is worth what was asked for."""


class NoFit(SumError):
    """What was handed in doesn't go together."""


class NotSteered(SumError):
    """Not all states can be come to; the row `price` shows it."""

    def __init__(self, price):
        self.price = price


class NotSeen(SumError):
    """Not all states can be told apart; the row `state` looks like rest."""

    def __init__(self, state):
        self.state = state


class NoText(SumError):
    """The text writes nothing such."""


class NoName(SumError):
    """The name `name` stands for nothing."""

    def __init__(self, name):
        self.name = name


class Taken(SumError):
    """The name `name` stands for something already."""

    def __init__(self, name):
        self.name = name
