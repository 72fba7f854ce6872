"""Stage 11: sums of two squares, of a prime and of any number whose parting paper is there."""

from rootprime.errors import TooMany
from rootprime.morechecks import how_many_pairs, least_three
from rootprime.powers import power
from rootprime.things import MOST_TOLD, parting_in


def two_squares(paper):
    """The tuple (x, y), x not above y, whose squares come to p together; None where there is none."""
    p, full, parts = paper
    if p == 2:
        return (1, 1)
    if p % 4 == 3:
        return None
    # The power of a full number to a quarter of p - 1 has the square -1 by p: in the walk of rests from p and this
    # power on, the first two that are below the square root of p are such x and y.
    y = p
    x = power(p, full, (p - 1) // 4)
    while y * y > p:
        y, x = x, y % x
    return (x, y)


def all_squares(parts):
    """The tuple (pairs, shown): all (x, y), x not above y, whose squares come to the parting paper's number."""
    parting = parting_in(parts)
    three = least_three(parting)
    if three is not None:
        return ([], ("three", three))
    many = how_many_pairs(parting)
    if many > MOST_TOLD:
        raise TooMany(many)
    pairs = [(0, 1)]
    for paper, times in parts:
        for step in steps_of(paper, times):
            pairs = all_products(pairs, step)
    return (pairs, ("all", many))


def steps_of(paper, times):
    """Pairs whose squares, multiplied, come to the prime taken so many times: an even number where its rest is 3."""
    pair = two_squares(paper)
    return [(0, paper[0])] * (times // 2) if pair is None else [pair] * times


def all_products(pairs, step):
    """Of all pairs whose squares come to a number, all for its product with what the step's squares come to, rising."""
    return sorted({product for pair in pairs for product in both_products(pair, step)})


def both_products(one, other):
    """The two pairs whose squares come to the product of what the squares of one and of the other come to."""
    a, b = one
    c, d = other
    return [in_order(a * c + b * d, a * d - b * c), in_order(a * c - b * d, a * d + b * c)]


def in_order(x, y):
    """The pair of both without their signs, the lesser one first."""
    return (min(abs(x), abs(y)), max(abs(x), abs(y)))
