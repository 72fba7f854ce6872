"""Stage 14: the looker goes through answers. It parts nothing and seeks nothing: the readers of papers look at them."""

from rootprime.errors import NoText
from rootprime.lines import number_in, numbers_in, parsed, written_parting, wrong_word
from rootprime.lowchecks import is_order, is_parting_paper, is_prime_paper
from rootprime.morechecks import are_papers, shows_roots_of, shows_squares, shows_which_of
from rootprime.papertexts import read
from rootprime.powers import power
from rootprime.things import MOST_TOLD, is_tuple_of, is_whole, parting_in, primes_in, product_of
from rootprime.together import put_together
from rootprime.upchecks import how_many_roots, shown_none
from rootprime.whichpower import FARTHEST


def first_wrong(answers):
    """The number, from 0 on, of the first thing that is no answer to its question; None where there is none."""
    for number, thing in enumerate(answers):
        if not is_answer(thing):
            return number
    return None


def is_answer(thing):
    """Whether the thing is a tuple of three texts: a question's line, what is told of it, and what shows it."""
    if not (is_tuple_of(thing, 3) and all([isinstance(text, str) for text in thing])):
        return False
    line, told, text = thing
    if wrong_word(line, False) is not None:
        return False
    try:
        shown = read(text)
    except NoText:
        return False
    if not (is_tuple_of(shown, 2) and isinstance(shown[0], tuple)):
        return False
    if parsed(line)[2] == ():
        return shows_of_number(line, told, shown)
    return shows_by_primes(line, told, shown)


def shows_of_number(line, told, shown):
    """Whether this is told and shown of a question without PRIMES."""
    kind, numbers, primes = parsed(line)
    papers, thing = shown
    if kind == "prime":
        return shows_prime(numbers[0], told, papers, thing)
    if kind == "part":
        return shows_parting(numbers[0], told, papers, thing)
    return shows_pairs(numbers[0], told, papers, thing)


def shows_by_primes(line, told, shown):
    """Whether this is told and shown of a question with PRIMES."""
    kind, numbers, primes = parsed(line)
    papers = list(shown[0])
    if not (are_papers(papers) and [paper[0] for paper in papers] == list(primes)):
        return False
    if kind == "order":
        return shows_order(papers, numbers[0], told, shown[1])
    one, other = numbers
    if kind == "power":
        return shown[1] == () and told == str(power(product_of(primes), one, other))
    if kind == "roots":
        return shows_all_roots(papers, one, other, told, shown[1])
    return shows_power(papers, one, other, told, shown[1])


def shows_prime(n, told, papers, thing):
    """Whether n is told to be a prime by its paper, or to be none by a number that divides it."""
    if told == "yes":
        return is_tuple_of(papers, 1) and is_prime_paper(papers[0]) and papers[0][0] == n and thing == ()
    return told == "no" and papers == () and is_tuple_of(thing, 1) and divides_between(thing[0], n)


def divides_between(thing, n):
    """Whether it is a number from 2 to below n that divides n."""
    return is_whole(thing) and 2 <= thing < n and n % thing == 0


def shows_parting(n, told, papers, times):
    """Whether the parting of n is told, and its paper shown."""
    parts = with_times(papers, times)
    return is_parting_paper(n, parts) and told == written_parting(parting_in(parts))


def with_times(papers, times):
    """The tuple of tuples (paper, many) of both; None where there aren't as many of one as of the other."""
    return tuple(zip(papers, times)) if is_tuple_of(times, len(papers)) else None


def shows_pairs(n, told, papers, thing):
    """Whether the sums of two squares of n are told, and what 35 shows of them."""
    if not is_tuple_of(thing, 2):
        return False
    pairs = [] if told == "none" else [numbers_in(word.split(",")) for word in told.split(" ")]
    return shows_squares(n, with_times(papers, thing[0]), (pairs, thing[1]))


def shows_order(papers, a, told, thing):
    """Whether the order of a is told, and those by each prime are shown."""
    if told == "nought":
        return thing == () and is_divided(papers, a)
    return are_orders(papers, a, thing) and told == str(put_together([(e, 0) for e in thing])[0])


def is_divided(papers, a):
    """Whether one of the papers' primes divides a."""
    return any([a % paper[0] == 0 for paper in papers])


def are_orders(papers, a, thing):
    """Whether it is the tuple of the orders of a by each paper's prime."""
    if not (is_tuple_of(thing, len(papers)) and all([is_whole(e) for e in thing])):
        return False
    return all([is_order(paper, a, e) for paper, e in zip(papers, thing)])


def shows_all_roots(papers, k, a, told, thing):
    """Whether all roots of order k of a are told, and what 31 shows of them; or that they are too many."""
    if thing == ():
        return shows_many([paper[0] for paper in papers], k, a, told)
    found = [] if told == "none" else list(numbers_in(told.split(" ")))
    return shows_roots_of(papers, k, a, (found, thing))


def shows_many(primes, k, a, told):
    """Whether there are roots by each prime, too many in all, and it is told how many."""
    if any([shown_none(p, k, a) is not None for p in primes]):
        return False
    many = product_of([how_many_roots(p, k, a) for p in primes])
    return many > MOST_TOLD and told == f"many {many}"


def shows_power(papers, b, a, told, thing):
    """Whether it is told which power of b a is, and what 32 shows of it; or why that isn't told."""
    if told == "nought":
        return thing == () and (is_divided(papers, b) or is_divided(papers, a))
    if told.startswith("far "):
        return shows_far(papers, b, a, told, thing)
    x = number_in(told)
    return (told == "none" or x is not None) and shows_which_of(papers, b, a, (x, thing))


def shows_far(papers, b, a, told, orders):
    """Whether the orders of b are shown, a may be a power of b by each prime, and their greatest prime is too great."""
    if not are_orders(papers, b, orders):
        return False
    # Where the power isn't 1, a is none of b's powers, and this is told ahead of what is too far.
    if any([power(paper[0], a, e) != 1 for paper, e in zip(papers, orders)]):
        return False
    primes = [q for paper, e in zip(papers, orders) for q in primes_in(paper[2]) if e % q == 0]
    greatest = max(primes, default=0)
    return greatest > FARTHEST and told == f"far {greatest}"
