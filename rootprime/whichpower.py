"""Stage 9: which power of another number a number is."""

from rootprime.errors import Nought, TooFar
from rootprime.kept import Kept
from rootprime.orders import order
from rootprime.parting import whole_of
from rootprime.powers import power
from rootprime.rests import inverse
from rootprime.things import parting_in, primes_in
from rootprime.together import put_together

# The greatest prime of an order by which powers are sought.
FARTHEST = 10 ** 6


def which(paper, b, a, kept=None):
    """The tuple (x, shown): the least x such that b's power by p to x and a are alike, None where there is none."""
    p = paper[0]
    if a % p == 0:
        raise Nought()
    e, parts = order(paper, b)
    rest = power(p, a, e)
    if rest != 1:
        return (None, ("none", e, rest))
    refuse_far(primes_in(parts))
    return sought(p, b, a, (e, parts), kept)


def refuse_far(primes):
    """Refuses the primes of orders where one of them is too great."""
    if primes and max(primes) > FARTHEST:
        raise TooFar(max(primes))


def sought(p, b, a, order_paper, kept):
    """The tuple (x, shown), where a is a power of b; kept is a Kept or None."""
    e, parts = order_paper
    # A table is needed within one prime alone where none are to be kept.
    keeper = Kept(1) if kept is None else kept
    rows = tuple([(q, digits(p, b, a, (e, q, many), keeper)) for q, many in parting_in(parts)])
    places = [(whole_of([(q, len(row))]), number_of(q, row)) for q, row in rows]
    return (put_together(places)[1], ("is", e, rows))


def digits(p, b, a, part, keeper):
    """The digits of x by the prime q, which stands many times in the order e; part is (e, q, many)."""
    e, q, many = part
    w = power(p, b, e // q)
    table = keeper.used_table(p, q, w)
    back = inverse(p, power(p, w, len(table)))
    found = []
    left = e
    for turn in range(many):
        left //= q
        c = power(p, a * power(p, b, -number_of(q, found)), left)
        i, j = steps_to(p, table, back, c)
        keeper.add_steps(i + 1)
        found.append(i * len(table) + j)
    return tuple(found)


def steps_to(p, table, back, c):
    """The tuple (i, j): the great step number i from c on is the first small step, and stands there with j."""
    i = 0
    rest = c
    while rest not in table:
        rest = rest * back % p
        i += 1
    return (i, table[rest])


def number_of(q, row):
    """What the digits come to: the first, the second times q, the third times q ** 2, and so on."""
    number = 0
    for digit in row[::-1]:
        number = number * q + digit
    return number
