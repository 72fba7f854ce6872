"""Stage 6: full numbers, those whose order by p is p - 1."""

from rootprime.lowchecks import is_order
from rootprime.parting import coprimes
from rootprime.things import parting_in


def is_full(paper, a):
    """Whether the rest of a by the paper's prime is a full number."""
    return is_order(paper, a, paper[0] - 1)


def full_from(paper, a):
    """The least full number that is no less than a, None where there is none."""
    number = max(a, 1)
    while number < paper[0]:
        if is_full(paper, number):
            return number
        number += 1
    return None


def fulls(paper, many):
    """The first so many full numbers, rising; all where there are fewer."""
    found = []
    number = full_from(paper, 1)
    while number is not None and len(found) < many:
        found.append(number)
        number = full_from(paper, number + 1)
    return found


def how_many_full(paper):
    """How many full numbers there are."""
    return coprimes(parting_in(paper[2]))
