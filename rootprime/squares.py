"""Stage 7: square roots, and the walk by which one is found."""

from rootprime.errors import NoRoot, Nought
from rootprime.powers import power


def square_roots(paper, a):
    """All numbers from 0 to p - 1 whose square and a are alike by p, rising."""
    p = paper[0]
    if a % p == 0:
        return [0]
    if no_square(paper, a) is not None:
        return []
    root = root_walk(paper, a)[-1][0]
    # By 2 a root and what differs from it by its sign alone are the same.
    return [root] if p == 2 else sorted([root, p - root])


def no_square(paper, a):
    """The power of a by p that shows that there is no square root, None where there is one."""
    p = paper[0]
    if p == 2 or power(p, a, (p - 1) // 2) != p - 1:
        return None
    return p - 1


def root_walk(paper, a):
    """The tuples (r, t, m) that lead to a square root of a, the last r."""
    p, full, parts = paper
    if a % p == 0:
        raise Nought()
    rest = no_square(paper, a)
    if rest is not None:
        raise NoRoot(rest)
    odd, s = without_twos(p - 1)
    r = power(p, a, (odd + 1) // 2)
    t = power(p, a, odd)
    m = squarings_to_one(p, t)
    walk = [(r, t, m)]
    while m > 0:
        w = squared(p, power(p, full, odd), s - m - 1)
        r = r * w % p
        t = t * w * w % p
        m = squarings_to_one(p, t)
        walk.append((r, t, m))
    return walk


def without_twos(number):
    """The tuple (odd, s): the number, from 1 on, is odd times 2 to the power s."""
    odd = number
    s = 0
    while odd % 2 == 0:
        odd //= 2
        s += 1
    return (odd, s)


def squared(p, number, times):
    """The number squared by p so many times, one after another."""
    rest = number
    for turn in range(times):
        rest = rest * rest % p
    return rest


def squarings_to_one(p, t):
    """How often t is squared by p until it is 1; its order is a power of 2."""
    rest = t
    times = 0
    while rest != 1:
        rest = rest * rest % p
        times += 1
    return times
