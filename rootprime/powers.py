"""Stage 2: powers by a number, and the row of squares by which one is reckoned."""

from rootprime.rests import inverse
from rootprime.things import is_just


def power(n, a, e):
    """The power of a by n to e; to an e below 0 that of the inverse."""
    base = a % n
    if e < 0:
        base = inverse(n, a)
    left = abs(e)
    rest = 1 % n
    while left > 0:
        if left % 2 == 1:
            rest = rest * base % n
        base = base * base % n
        left //= 2
    return rest


def is_least(n, a, e, primes):
    """Whether the power of a by n to e is 1, and to e // q, for each q of these primes of e, it is not."""
    return power(n, a, e) == 1 and all([power(n, a, e // prime) != 1 for prime in primes])


def power_row(n, a, e):
    """The list of tuples (exponent, rest) that leads from exponent 0 to e, e from 0 on."""
    rest = 1 % n
    row = [(0, rest)]
    for exponent in exponents_to(e):
        rest = rest * rest % n
        if exponent % 2 == 1:
            rest = rest * a % n
        row.append((exponent, rest))
    return row


def exponents_to(e):
    """The exponents of the row behind 0, rising: e, its half, the half of this, down to 1."""
    exponents = []
    left = e
    while left > 0:
        exponents.append(left)
        left //= 2
    return exponents[::-1]


def is_power_row(n, a, e, thing):
    """Whether the thing is the row of the power of a by n to e."""
    return is_just(thing, power_row(n, a, e))
