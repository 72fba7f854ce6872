"""Stages 4 and 5: the small readers of papers. They part nothing and seek nothing: they look at what is there."""

from rootprime.powers import is_least, power
from rootprime.things import is_tuple_of, is_whole, primes_in


def is_prime_paper(thing):
    """Whether the thing is a prime paper."""
    return are_prime_papers([thing])


def is_parting_paper(n, thing):
    """Whether the thing is a parting paper of n."""
    return isinstance(thing, tuple) and come_to(n, thing, 2) and are_prime_papers([row[0] for row in thing])


def is_order_paper(n, a, thing):
    """Whether the thing is an order paper of a by n, n from 2 on."""
    if not (is_tuple_of(thing, 2) and is_whole(thing[0]) and isinstance(thing[1], tuple)):
        return False
    e, parts = thing
    if not come_to(e, parts, 3) or power(n, a, e) != 1:
        return False
    return all([is_rest(n, a, e, row) for row in parts]) and are_prime_papers([row[0] for row in parts])


def is_order(paper, a, e):
    """Whether e is the order of a by the paper's prime."""
    p, full, parts = paper
    # Each order divides p - 1, so its primes are among those of the paper.
    if e < 1 or (p - 1) % e != 0:
        return False
    return is_least(p, a, e, [prime for prime in primes_in(parts) if e % prime == 0])


def are_prime_papers(things):
    """Whether each of the things is a prime paper."""
    # The papers within a paper wait in a list, so that no depth of papers is too great.
    waiting = list(things)
    while waiting:
        paper = waiting.pop()
        if not is_right_above(paper):
            return False
        waiting.extend([row[0] for row in paper[2]])
    return True


def is_right_above(thing):
    """Whether the thing is a prime paper, if those within it are."""
    if not is_paper_form(thing):
        return False
    p, full, parts = thing
    return 1 <= full < p and come_to(p - 1, parts, 2) and is_least(p, full, p - 1, primes_in(parts))


def is_paper_form(thing):
    """Whether the thing is a tuple of a number from 2 on, a number, and a tuple."""
    if not is_tuple_of(thing, 3):
        return False
    p, full, parts = thing
    return is_whole(p) and p >= 2 and is_whole(full) and isinstance(parts, tuple)


def come_to(n, rows, width):
    """Whether the rows (paper, many, ..) are so wide, their primes rise, and come, each many times, to n."""
    left = n
    last = 1
    for row in rows:
        if left < 1 or not is_row_form(row, width) or row[0][0] <= last:
            return False
        last = row[0][0]
        left = without(left, last, row[1])
    return left == 1


def is_row_form(thing, width):
    """Whether the thing is a tuple so wide, of what has a paper's form, a number from 1 on, and whatever else."""
    return is_tuple_of(thing, width) and is_paper_form(thing[0]) and is_whole(thing[1]) and thing[1] >= 1


def without(whole, prime, many):
    """The number, from 1 on, with the prime left out many times; 0 where it doesn't stand there so often."""
    left = whole
    missing = many
    # However great many is, the walk ends with the first time that the prime doesn't divide what is left.
    while missing > 0 and left % prime == 0:
        left //= prime
        missing -= 1
    return left if missing == 0 else 0


def is_rest(n, a, e, row):
    """Whether the row's rest is the power of a by n to e // q, q being its prime, and not 1."""
    rest = row[2]
    return is_whole(rest) and rest != 1 and rest == power(n, a, e // row[0][0])
