"""Stage 4: the papers that tell a number prime, and that tell its parting."""

from rootprime.errors import NoPrime
from rootprime.parting import least_divisor, parted
from rootprime.powers import is_least
from rootprime.things import primes_in


def prime_paper(n):
    """The prime paper (n, full, parts) of the prime n, with the least full number."""
    least = least_divisor(n)
    if least < n:
        raise NoPrime(least)
    parts = parting_paper(n - 1)
    return (n, least_full(n, primes_in(parts)), parts)


def parting_paper(n):
    """The parting paper of n: tuples (paper, many), the papers' primes rising."""
    return tuple([(prime_paper(prime), many) for prime, many in parted(n)])


def least_full(p, primes):
    """The least full number of the prime p; primes are those of p - 1."""
    full = 1
    # By each prime there is a full number, so the walk ends.
    while not is_least(p, full, p - 1, primes):
        full += 1
    return full
