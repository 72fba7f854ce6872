"""The refusals. Each stands straight under PrimeError, and keeps in its fields what it was made with."""


class PrimeError(ValueError):
    """Any refusal."""


class NoNumber(PrimeError):
    """The number is below those that are spoken of."""


class Nought(PrimeError):
    """A prime divides the number."""


class NoOrder(PrimeError):
    """No order is as asked."""


class TooFar(PrimeError):
    """The number part is too great."""

    def __init__(self, part):
        self.part = part


class NoPrime(PrimeError):
    """The number is no prime: its least divisor is told."""

    def __init__(self, divisor):
        self.divisor = divisor


class NoInverse(PrimeError):
    """There is no inverse: the divisor that the two numbers have in common is told."""

    def __init__(self, divisor):
        self.divisor = divisor


class NoRoot(PrimeError):
    """There is no root: the power that shows it is told."""

    def __init__(self, rest):
        self.rest = rest


class TooMany(PrimeError):
    """There are too many to be told: how many is told."""

    def __init__(self, many):
        self.many = many


class NoText(PrimeError):
    """The text isn't as it should be: the place is told."""

    def __init__(self, line, word):
        self.line = line
        self.word = word


class NoRow(PrimeError):
    """The desk doesn't know the row."""
