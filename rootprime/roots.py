"""Stage 8: all roots of any order, or a power that shows that there are none."""

from rootprime.errors import TooMany
from rootprime.orders import of_order
from rootprime.parting import whole_of
from rootprime.powers import power
from rootprime.rests import divisor, inverse
from rootprime.things import MOST_TOLD, parting_in
from rootprime.upchecks import how_many_roots, shown_none
from rootprime.whichpower import which


def roots(paper, k, a):
    """The tuple (roots, shown): all roots of order k of a by p, rising, and what shows it."""
    p = paper[0]
    if a % p == 0:
        return ([0], ("nought",))
    none = shown_none(p, k, a)
    if none is not None:
        return ([], none)
    many = how_many_roots(p, k, a)
    if many > MOST_TOLD:
        raise TooMany(many)
    turn = of_order(paper, many)
    found = sorted(all_turned(p, one_root(paper, k, a), turn, many))
    return (found, ("turned", found[0], turn))


def all_turned(p, root, turn, many):
    """The root times the first so many powers of turn."""
    found = []
    number = root
    for step in range(many):
        found.append(number)
        number = number * turn % p
    return found


def one_root(paper, k, a):
    """Some root of order k of a, where there are some, not too many."""
    p, full, parts = paper
    many = how_many_roots(p, k, a)
    # p - 1 is inner times outer: the primes of inner divide k and aren't great, those of outer don't divide it.
    inner = whole_of([(prime, times) for prime, times in parting_in(parts) if many % prime == 0])
    outer = (p - 1) // inner
    g, u, v = divisor(inner, outer)
    # As u * inner + v * outer is 1, a is its power to u * inner times its power to v * outer.
    outer_root = power(p, a, u * inner * inverse(outer, k))
    base = power(p, full, outer)
    exponent = which(paper, base, power(p, a, v * outer))[0]
    inner_root = power(p, base, exponent // many * inverse(inner // many, k // many))
    return outer_root * inner_root % p
