"""Stages 10 and 11: the readers of what is told by several primes, and of sums of two squares."""

from rootprime.lowchecks import are_prime_papers, is_parting_paper
from rootprime.things import MOST_PRIMES, MOST_TOLD, is_just, is_pair, is_tuple_of, is_whole, parting_in
from rootprime.together import put_together
from rootprime.upchecks import are_all_roots, is_shown_by, is_which, shows_roots, shows_which

# The greatest number whose sums of two squares are read.
GREATEST_SUM = 10 ** 18


def shows_roots_of(papers, k, a, thing):
    """Whether they are papers of some primes, and the thing what is told of the roots of order k of a by them."""
    if not (are_papers(papers) and is_tuple_of(thing, 2)):
        return False
    found, shown = thing
    if is_none_at(shown, len(papers)):
        return shows_roots(papers[shown[1]], k, a, (found, ("none", shown[2], shown[3])))
    if not (is_by(shown, len(papers)) and are_all_roots([paper[0] for paper in papers], k, a, found)):
        return False
    return all([is_shown_by(paper, k, a, found, row) for paper, row in zip(papers, shown[1])])


def shows_which_of(papers, b, a, thing):
    """Whether they are papers of some primes, and the thing what is told of which power of b a is by them."""
    if not (are_papers(papers) and is_tuple_of(thing, 2)):
        return False
    if any([a % paper[0] == 0 or b % paper[0] == 0 for paper in papers]):
        return False
    x, shown = thing
    if is_none_at(shown, len(papers)):
        return shows_which(papers[shown[1]], b, a, (x, ("none", shown[2], shown[3])))
    if is_apart_form(shown, len(papers)):
        return x is None and shows_apart(papers, b, a, shown)
    if not (is_by(shown, len(papers)) and are_places(papers, b, a, shown[1])):
        return False
    told = put_together(list(shown[1]))
    return len(told) == 2 and is_just(x, told[1])


def are_papers(things):
    """Whether it is a list of one to five prime papers, of unlike primes, rising."""
    if not (isinstance(things, list) and 1 <= len(things) <= MOST_PRIMES and are_prime_papers(things)):
        return False
    return are_rising([paper[0] for paper in things])


def are_rising(things):
    """Whether each next one is greater."""
    return all([low < high for low, high in zip(things, things[1:])])


def is_none_at(shown, many):
    """Whether it is ("none", n, .., ..), n being one of so many places."""
    return is_tuple_of(shown, 4) and shown[0] == "none" and is_place(shown[1], many)


def is_place(thing, many):
    """Whether it is one of so many places, from 0 on."""
    return is_whole(thing) and 0 <= thing < many


def is_by(shown, many):
    """Whether it is ("by", rows), with so many rows."""
    return is_tuple_of(shown, 2) and shown[0] == "by" and is_tuple_of(shown[1], many)


def is_apart_form(shown, many):
    """Whether it is ("apart", i, j, .., ..), i below j, both being some of so many places."""
    if not (is_tuple_of(shown, 5) and shown[0] == "apart"):
        return False
    return is_place(shown[2], many) and is_place(shown[1], shown[2])


def shows_apart(papers, b, a, shown):
    """Whether the two places that are told apart are right, and can't be put together."""
    places = [shown[3], shown[4]]
    if not are_places([papers[shown[1]], papers[shown[2]]], b, a, places):
        return False
    return len(put_together(places)) == 3


def are_places(papers, b, a, places):
    """Whether each place is (e, y), the order of b by its paper's prime, and which power of b a is."""
    return all([is_which(paper, b, a, place) for paper, place in zip(papers, places)])


def shows_squares(n, parts, thing):
    """Whether the parts are a parting paper of n, up to the bound, and the thing what is told of its two squares."""
    if not (n <= GREATEST_SUM and is_parting_paper(n, parts) and is_tuple_of(thing, 2)):
        return False
    pairs, shown = thing
    three = least_three(parting_in(parts))
    if three is not None:
        return is_just(thing, ([], ("three", three)))
    many = how_many_pairs(parting_in(parts))
    return many <= MOST_TOLD and is_just(shown, ("all", many)) and are_all_pairs(n, many, pairs)


def least_three(parting):
    """The least prime with the rest 3 by 4 that stands there an odd number of times, None where there is none."""
    for prime, many in parting:
        if prime % 4 == 3 and many % 2 == 1:
            return prime
    return None


def how_many_pairs(parting):
    """How many sums of two squares come to the parting's number, where no prime forbids it."""
    many_ways = 1
    for prime, many in parting:
        if prime % 4 == 1:
            many_ways *= many + 1
    return (many_ways + 1) // 2


def are_all_pairs(n, many, pairs):
    """Whether it is the rising list of so many pairs (x, y), x not above y, whose squares come to n."""
    # So many unlike pairs are all of them: nothing needs to be found anew.
    if not (isinstance(pairs, list) and len(pairs) == many and all([is_pair(pair) for pair in pairs])):
        return False
    return are_rising(pairs) and all([0 <= x <= y and x * x + y * y == n for x, y in pairs])
