"""What several tests use: things of every kind, things that are bent at one place, a bound on waiting."""

import contextlib
import math
import signal

SIXTY = 10 ** 60 - 1
GREAT = (SIXTY, -SIXTY, 10 ** 59, 314159265358979323846264338327950288419716939937510582097494)


def deep(depth, kind):
    """A thing that lies within so many tuples or lists."""
    thing = 1
    for _ in range(depth):
        thing = kind([thing])
    return thing


def every_kind():
    """Things of every kind that may be handed in as any thing, right by nobody's reckoning."""
    return [
        None, True, False, 0, 1, 2, -1, 7, SIXTY, -SIXTY,
        "", "a", "2", "(2 1 ())", "\n", "~",
        [], (), [()], ((),), ([],), [[]], (None,), (True,), ("a", "b"), [1, 2, 3], (0, 0), (1, 2, 3),
        (0, ()), (1, ((),)), (2, 1), (2, 1, ()) * 2, ((2, 1, ()),), (((2, 1, ()),),), "210", ("2", "1", "()"),
        deep(100, tuple), deep(100, list), tuple(range(1999)), list(range(1999)), (((),) * 600,) * 3,
    ]


def bends(thing):
    """Every thing out of a great choice that differs from the thing at one place."""
    seen = {repr(thing)}
    for bent in all_bends(thing):
        if repr(bent) not in seen:
            seen.add(repr(bent))
            yield bent


def all_bends(thing):
    yield from (None, True, False, 0, "", "a", (), [], str(thing), (thing,), [thing])
    if isinstance(thing, (tuple, list)):
        yield from bent_rows(thing)
    elif isinstance(thing, int):
        yield from (1, 2, 3, -thing, thing + 1, thing - 1, 2 * thing, SIXTY, -SIXTY)


def bent_rows(thing):
    kind = tuple if isinstance(thing, tuple) else list
    yield list(thing) if kind is tuple else tuple(thing)
    yield thing[::-1]
    for more in (0, 1, None, (), (thing,)):
        yield thing + kind([more])
        yield kind([more]) + thing
    for at, within in enumerate(thing):
        yield thing[:at] + thing[at + 1:]
        yield thing[:at] + kind([within]) + thing[at:]
        for bent in bends(within):
            yield thing[:at] + kind([bent]) + thing[at + 1:]


@contextlib.contextmanager
def soon(seconds=10):
    """Fails where what is done within takes longer."""
    def ring(signum, frame):
        raise AssertionError(f"no answer within {seconds} seconds")

    old = signal.signal(signal.SIGALRM, ring)
    signal.setitimer(signal.ITIMER_REAL, seconds)
    try:
        yield
    finally:
        signal.setitimer(signal.ITIMER_REAL, 0)
        signal.signal(signal.SIGALRM, old)


def is_plain(thing):
    """Whether all numbers in what is told are whole numbers, no truths, and all kinds are plain ones."""
    if type(thing) in (tuple, list):
        return all(is_plain(within) for within in thing)
    return type(thing) is int or thing is None


def is_prime(n):
    """By the words of point 10, but for going on behind the root."""
    return n >= 2 and all(n % d for d in range(2, min(n, int(n ** 0.5) + 2)))


def is_right_prime_paper(thing):
    """Point 13, word by word."""
    if not (type(thing) is tuple and len(thing) == 3):
        return False
    p, full, parts = thing
    return (
        type(p) is int and type(full) is int and p >= 2 and 1 <= full <= p - 1
        and is_right_parting_paper(p - 1, parts)
        and pow(full, p - 1, p) == 1
        and all(pow(full, (p - 1) // row[0][0], p) != 1 for row in parts)
    )


def is_right_parting_paper(n, thing):
    """Point 14, word by word."""
    return n >= 1 and type(thing) is tuple and are_right_rows(n, thing, 2)


def is_right_order_paper(n, a, thing):
    """Point 17, word by word."""
    if not (type(thing) is tuple and len(thing) == 2):
        return False
    e, parts = thing
    return (
        type(e) is int and e >= 1 and type(parts) is tuple and are_right_rows(e, parts, 3)
        and pow(a, e, n) == 1
        and all(type(rest) is int and rest != 1 and rest == pow(a, e // paper[0], n) for paper, _, rest in parts)
    )


def are_right_rows(n, rows, width):
    if not all(type(row) is tuple and len(row) == width and is_right_prime_paper(row[0]) for row in rows):
        return False
    # A many above the bits of n is too great by far, and its power takes long to make.
    if not all(type(row[1]) is int and 1 <= row[1] <= n.bit_length() for row in rows):
        return False
    primes = [row[0][0] for row in rows]
    return primes == sorted(set(primes)) and math.prod(row[0][0] ** row[1] for row in rows) == n


def order_by_hand(n, a):
    """The order of a by n, by going through all powers; None where there is none."""
    rest, e = a % n, 1
    while rest != 1:
        rest, e = rest * a % n, e + 1
        if e > n:
            return None
    return e
