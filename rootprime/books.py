"""Stage 13: books of questions are read and answered."""

from rootprime.errors import NoText
from rootprime.lines import parsed, wrong_word
from rootprime.questions import (
    OrderQuestion, PartQuestion, PowerQuestion, PrimeQuestion, RootsQuestion, SquaresQuestion, WhichQuestion,
)

# How many lines a book has at most.
MOST_LINES = 60


def read_book(text):
    """The list of the book's questions."""
    found = []
    for number, line in enumerate(text.split("\n")):
        if number == MOST_LINES:
            raise NoText(number, 0)
        found.append(read_question(line, number))
    return found


def answers(text, kept=None):
    """The list of what the book's questions are answered with."""
    return [question.answer(kept) for question in read_book(text)]


def read_question(line, number):
    """The question of the line that has this number."""
    wrong = wrong_word(line, True)
    if wrong is not None:
        raise NoText(number, wrong)
    kind, numbers, primes = parsed(line)
    if kind == "prime":
        return PrimeQuestion(line, numbers, primes)
    if kind == "part":
        return PartQuestion(line, numbers, primes)
    if kind == "squares":
        return SquaresQuestion(line, numbers, primes)
    if kind == "order":
        return OrderQuestion(line, numbers, primes)
    if kind == "power":
        return PowerQuestion(line, numbers, primes)
    if kind == "roots":
        return RootsQuestion(line, numbers, primes)
    return WhichQuestion(line, numbers, primes)
