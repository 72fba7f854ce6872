"""Stage 10: orders, roots and which power by several primes together."""

from rootprime.errors import Nought, TooMany
from rootprime.orders import order
from rootprime.powers import power
from rootprime.roots import roots
from rootprime.things import MOST_TOLD, primes_in, product_of
from rootprime.together import put_together
from rootprime.upchecks import how_many_roots, shown_none
from rootprime.whichpower import refuse_far, sought


def order_of(papers, a):
    """The least t from 1 on such that the power of a to t is 1 by each prime."""
    return put_together([(order(paper, a)[0], 0) for paper in papers])[0]


def roots_of(papers, k, a):
    """The tuple (roots, shown): all roots of order k of a by the primes together, rising, and what shows it."""
    for n, paper in enumerate(papers):
        none = shown_none(paper[0], k, a)
        if none is not None:
            return ([], ("none", n, none[1], none[2]))
    many = product_of([how_many_roots(paper[0], k, a) for paper in papers])
    if many > MOST_TOLD:
        raise TooMany(many)
    told = [roots(paper, k, a) for paper in papers]
    found = all_together([paper[0] for paper in papers], [row[0] for row in told])
    return (found, ("by", tuple([row[1] for row in told])))


def all_together(primes, rests):
    """All numbers, rising, that leave by each prime one of the rests beside it."""
    whole = 1
    found = [0]
    for p, choice in zip(primes, rests):
        found = [put_together([(whole, number), (p, rest)])[1] for number in found for rest in choice]
        whole *= p
    return sorted(found)


def which_of(papers, b, a, kept=None):
    """The tuple (x, shown): the least x such that b's power to x and a are alike by each prime, or None."""
    if any([a % paper[0] == 0 for paper in papers]):
        raise Nought()
    orders = [order(paper, b) for paper in papers]
    for n, paper in enumerate(papers):
        e = orders[n][0]
        rest = power(paper[0], a, e)
        if rest != 1:
            return (None, ("none", n, e, rest))
    refuse_far([prime for e, parts in orders for prime in primes_in(parts)])
    places = [(row[0], sought(paper[0], b, a, row, kept)[0]) for paper, row in zip(papers, orders)]
    return placed(places)


def placed(places):
    """What is told of the places (e, y), which power it is by each prime."""
    told = put_together(places)
    if len(told) == 3:
        i, j = told[1:]
        return (None, ("apart", i, j, places[i], places[j]))
    return (told[1], ("by", tuple(places)))
