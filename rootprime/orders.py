"""Stage 5: orders, told as order papers."""

from rootprime.errors import NoOrder, Nought
from rootprime.parting import divisors, whole_of
from rootprime.powers import power
from rootprime.things import parting_in, primes_in


def order_from(n, a, parts):
    """The order paper of a by n, n from 2 on, from a parting paper of a number to which a's power is 1."""
    # An order is below n, so the power is 1 too where no prime is taken oftener than it stands below n.
    parting = [(prime, min(many, most_times(n, prime))) for prime, many in parting_in(parts)]
    if raised(n, a % n, parting) != 1:
        raise NoOrder()
    times = times_in_order(n, a % n, parting)
    kept = [(row[0], many) for row, many in zip(parts, times) if many > 0]
    e = whole_of(parting_in(kept))
    return (e, tuple([(paper, many, power(n, a, e // paper[0])) for paper, many in kept]))


def most_times(n, prime):
    """How often the prime may be multiplied with itself to stay below n."""
    times = 0
    product = prime
    while product < n:
        product *= prime
        times += 1
    return times


def raised(n, a, parting):
    """The power of a, a rest by n, to the parting's number."""
    # Prime by prime: the number itself may be too great to be made.
    rest = a
    for prime, many in parting:
        for turn in range(many):
            rest = power(n, rest, prime)
    return rest


def times_in_order(n, a, parting):
    """How often each prime of the parting stands in the order of a, a rest by n that raised tells to be 1."""
    if len(parting) == 0:
        return []
    if len(parting) == 1:
        return [times_to_one(n, a, parting[0][0])]
    # By halves: were all other primes raised for each prime anew, many primes would take long.
    half = len(parting) // 2
    ahead = parting[:half]
    behind = parting[half:]
    return times_in_order(n, raised(n, a, behind), ahead) + times_in_order(n, raised(n, a, ahead), behind)


def times_to_one(n, a, prime):
    """How often a, a rest by n, is raised to the prime until it is 1."""
    times = 0
    rest = a
    while rest != 1:
        rest = power(n, rest, prime)
        times += 1
    return times


def order(paper, a):
    """The order paper of a by the paper's prime."""
    p, full, parts = paper
    if a % p == 0:
        raise Nought()
    return order_from(p, a, parts)


def orders_by(paper):
    """Tuples (d, many) for each d that divides p - 1, rising: how many numbers have the order d."""
    primes = primes_in(paper[2])
    return [(d, coprimes_by(d, primes)) for d in divisors(parting_in(paper[2]))]


def coprimes_by(d, primes):
    """How many numbers from 1 to d have with it the divisor 1; all primes of d are among the primes."""
    many = d
    for prime in primes:
        if d % prime == 0:
            many = many // prime * (prime - 1)
    return many


def of_order(paper, d):
    """A number from 1 to p - 1 whose order is d."""
    p, full, parts = paper
    if d < 1 or (p - 1) % d != 0:
        raise NoOrder()
    return power(p, full, (p - 1) // d)
