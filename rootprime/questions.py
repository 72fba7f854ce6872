"""Stage 13: the questions of a book, each of which knows its answer."""

from rootprime.errors import NoPrime, Nought, TooFar, TooMany
from rootprime.lines import written, written_pairs, written_parting
from rootprime.manyprimes import order_of, roots_of, which_of
from rootprime.orders import order
from rootprime.papertexts import show
from rootprime.powers import power
from rootprime.primepapers import parting_paper, prime_paper
from rootprime.things import parting_in, product_of
from rootprime.twosquares import all_squares


class Question:
    """A question's line, with its NUMBERs and its PRIMES; the classes under it find what is told."""

    def __init__(self, line, numbers, primes):
        self.line = line
        self.numbers = numbers
        self.primes = primes

    def asked(self):
        """The question's line."""
        return self.line

    def answer(self, kept=None):
        """The tuple (line, told, shown) of three texts."""
        told, papers, thing = self.found(kept)
        return (self.line, told, show((papers, thing)))

    def found(self, kept):
        """The tuple (told, papers, thing): the text that is told, and what is shown of it."""
        raise NotImplementedError()

    def papers_asked(self):
        """The papers of the question's PRIMES."""
        return [prime_paper(p) for p in self.primes]


class PrimeQuestion(Question):
    """Whether N is a prime."""

    def found(self, kept):
        try:
            return ("yes", (prime_paper(self.numbers[0]),), ())
        except NoPrime as refusal:
            return ("no", (), (refusal.divisor,))


class PartQuestion(Question):
    """The parting of N."""

    def found(self, kept):
        parts = parting_paper(self.numbers[0])
        return (written_parting(parting_in(parts)), papers_in(parts), times_in(parts))


class SquaresQuestion(Question):
    """The sums of two squares of N."""

    def found(self, kept):
        parts = parting_paper(self.numbers[0])
        pairs, shown = all_squares(parts)
        return (written_pairs(pairs), papers_in(parts), (times_in(parts), shown))


class OrderQuestion(Question):
    """The order of A by PRIMES."""

    def found(self, kept):
        papers = self.papers_asked()
        a = self.numbers[0]
        try:
            return (str(order_of(papers, a)), papers, orders_of(papers, a))
        except Nought:
            return ("nought", papers, ())


class PowerQuestion(Question):
    """The power of A to E by PRIMES."""

    def found(self, kept):
        a, e = self.numbers
        return (str(power(product_of(self.primes), a, e)), self.papers_asked(), ())


class RootsQuestion(Question):
    """The roots of order K of A by PRIMES."""

    def found(self, kept):
        papers = self.papers_asked()
        k, a = self.numbers
        try:
            found, shown = roots_of(papers, k, a)
            return (written(found), papers, shown)
        except TooMany as refusal:
            return (f"many {refusal.many}", papers, ())


class WhichQuestion(Question):
    """Which power of B A is by PRIMES."""

    def found(self, kept):
        papers = self.papers_asked()
        b, a = self.numbers
        try:
            x, shown = which_of(papers, b, a, kept)
            return ("none" if x is None else str(x), papers, shown)
        except Nought:
            return ("nought", papers, ())
        except TooFar as refusal:
            return (f"far {refusal.part}", papers, orders_of(papers, b))


def papers_in(parts):
    """The tuple of a parting paper's prime papers."""
    return tuple([row[0] for row in parts])


def times_in(parts):
    """The tuple of how often each prime of a parting paper stands."""
    return tuple([row[1] for row in parts])


def orders_of(papers, a):
    """The tuple of the orders of a by each prime, which doesn't divide it."""
    return tuple([order(paper, a)[0] for paper in papers])
