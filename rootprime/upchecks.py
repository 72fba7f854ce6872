"""Stages 8 and 9: the readers of roots, and of which power a number is."""

from rootprime.lowchecks import is_order, is_prime_paper
from rootprime.powers import power
from rootprime.rests import divisor
from rootprime.things import MOST_TOLD, is_just, is_pair, is_tuple_of, is_whole, primes_in, product_of


def shows_roots(paper, k, a, thing):
    """Whether the paper is a prime paper, and the thing what is told of the roots of order k of a by it."""
    if not (is_prime_paper(paper) and is_tuple_of(thing, 2)):
        return False
    found, shown = thing
    none = shown_none(paper[0], k, a)
    if none is not None:
        return is_just(thing, ([], none))
    return are_all_roots([paper[0]], k, a, found) and is_shown_by(paper, k, a, found, shown)


def how_many_roots(p, k, a):
    """How many roots of order k of a there are by p, where there are some."""
    return 1 if a % p == 0 else divisor(k, p - 1)[0]


def shown_none(p, k, a):
    """What shows that there are no roots of order k of a by p; None where there are some."""
    if a % p == 0:
        return None
    e = (p - 1) // how_many_roots(p, k, a)
    rest = power(p, a, e)
    return None if rest == 1 else ("none", e, rest)


def are_all_roots(primes, k, a, found):
    """Whether it is the rising list of all roots of order k of a by the primes, and these aren't too many."""
    many = product_of([how_many_roots(p, k, a) for p in primes])
    # So many unlike roots are all of them: nothing needs to be found anew.
    if many > MOST_TOLD or not isinstance(found, list) or len(found) != many:
        return False
    if not are_rising_below(product_of(primes), found):
        return False
    return all([is_root(p, k, a, root) for p in primes for root in found])


def are_rising_below(whole, numbers):
    """Whether they are whole numbers from 0 to below the whole, each next one greater."""
    if not all([is_whole(number) for number in numbers]):
        return False
    return all([low < high for low, high in zip([-1] + numbers, numbers + [whole])])


def is_root(p, k, a, root):
    """Whether the number is alike with a root of order k of a by p."""
    if a % p == 0 or root % p == 0:
        return a % p == root % p
    return power(p, root, k) == a % p


def is_shown_by(paper, k, a, found, shown):
    """Whether this is shown of the roots by the paper, of which each is alike with one that was found."""
    p = paper[0]
    if a % p == 0:
        return is_just(shown, ("nought",))
    least = min([root % p for root in found])
    if not (is_tuple_of(shown, 3) and is_just(shown[:2], ("turned", least)) and is_whole(shown[2])):
        return False
    return 1 <= shown[2] < p and is_order(paper, shown[2], how_many_roots(p, k, a))


def shows_which(paper, b, a, thing):
    """Whether the paper is a prime paper, and the thing what is told of which power of b a is by it."""
    if not (is_prime_paper(paper) and is_tuple_of(thing, 2) and is_tuple_of(thing[1], 3)):
        return False
    x, shown = thing
    e = shown[1]
    if x is None:
        return shows_no_power(paper, b, a, shown)
    return is_which(paper, b, a, (e, x)) and is_just(shown, ("is", e, digit_rows(paper, e, x)))


def shows_no_power(paper, b, a, shown):
    """Whether this is shown of an a that is no power of b by the paper's prime, which divides neither."""
    p = paper[0]
    e = shown[1]
    if a % p == 0 or not (is_whole(e) and is_order(paper, b, e)):
        return False
    rest = power(p, a, e)
    return rest != 1 and is_just(shown, ("none", e, rest))


def is_which(paper, b, a, place):
    """Whether it is (e, x), e being the order of b by the paper's prime, x the least such that b's power to x is a."""
    if not (is_pair(place) and is_order(paper, b, place[0])):
        return False
    p = paper[0]
    e, x = place
    return 0 <= x < e and power(p, b, x) == a % p


def digit_rows(paper, e, x):
    """The tuple of tuples (q, digits) of x, for each prime q of the order e."""
    return tuple([(q, digits_by(e, q, x)) for q in primes_in(paper[2]) if e % q == 0])


def digits_by(e, q, x):
    """As many digits of x by q, the lowest first, as q stands in e."""
    found = []
    left = e
    number = x
    while left % q == 0:
        found.append(number % q)
        left //= q
        number //= q
    return tuple(found)
