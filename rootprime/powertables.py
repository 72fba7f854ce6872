"""Stage 11: tables of the powers of a number by a prime."""

from rootprime.errors import TooMany
from rootprime.orders import order
from rootprime.things import MOST_TOLD


def powers_of(paper, b):
    """The list of the powers of b by p to 0, 1, .., up to below the order of b."""
    p = paper[0]
    many = order(paper, b)[0]
    if many > MOST_TOLD:
        raise TooMany(many)
    found = [1]
    while len(found) < many:
        found.append(found[-1] * b % p)
    return found


def places_of(paper, b):
    """The dict from each power of b by p to its place in the list of all."""
    return {number: place for place, number in enumerate(powers_of(paper, b))}
