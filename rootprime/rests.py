"""Stage 1: the divisor of two numbers, the inverse of a number."""

from rootprime.errors import NoInverse


def divisor(a, b):
    """The tuple (g, u, v): g, from 0 on, divides a and b, and is u * a + v * b."""
    g, u, v = abs(a), 1, 0
    next_g, next_u, next_v = abs(b), 0, 1
    # Each g is its u times a and its v times b, both without their signs.
    while next_g > 0:
        times = g // next_g
        g, next_g = next_g, g - times * next_g
        u, next_u = next_u, u - times * next_u
        v, next_v = next_v, v - times * next_v
    return (g, -u if a < 0 else u, -v if b < 0 else v)


def inverse(n, a):
    """The number from 0 to n - 1 that, times a, is 1 by n."""
    g, u, v = divisor(a % n, n)
    if g > 1:
        raise NoInverse(g)
    return u % n
