"""What books, answers and texts of things are written in: NUMBERs, PRIMES, the lines of questions."""

from rootprime.parting import GREATEST, least_divisor
from rootprime.things import MOST_PRIMES

# How many figures a NUMBER has at most.
MOST_FIGURES = 60

FIGURES = "0123456789"

# What stands behind the first word of a question.
FORMS = {
    "prime": ("N",),
    "part": ("N",),
    "squares": ("N",),
    "order": ("A", "by", "PRIMES"),
    "power": ("A", "E", "by", "PRIMES"),
    "roots": ("K", "A", "by", "PRIMES"),
    "which": ("A", "A", "by", "PRIMES"),
}


def run_end(text, at, signs, most):
    """The place behind the signs of this sort that stand from the place on, at most so many."""
    end = at
    while end < len(text) and end - at < most and text[end] in signs:
        end += 1
    return end


def number_end(text, at):
    """The place behind the NUMBER that begins at the place, as long as it may be; the place itself where none does."""
    first = at + 1 if text[at:at + 1] == "-" else at
    if text[first:first + 1] == "0":
        # No figure stands behind a 0, and no - ahead of it.
        return at + 1 if first == at else at
    end = run_end(text, first, FIGURES, MOST_FIGURES)
    return end if end > first else at


def number_in(word):
    """The number that the word is the NUMBER of, None where it is none."""
    return int(word) if word != "" and number_end(word, 0) == len(word) else None


def primes_written(word):
    """The tuple of the numbers that PRIMES tell, None where the word isn't so; whether they are primes isn't asked."""
    numbers = [number_in(part) for part in word.split("*")]
    if len(numbers) > MOST_PRIMES or None in numbers:
        return None
    if not all([low < high for low, high in zip([1] + numbers, numbers + [GREATEST + 1])]):
        return None
    return tuple(numbers)


def are_primes(word):
    """Whether the word is PRIMES, and its numbers are primes."""
    numbers = primes_written(word)
    return numbers is not None and all([least_divisor(number) == number for number in numbers])


def is_right_word(form, word, sure):
    """Whether the word has the form; sure says whether PRIMES must be primes, and aren't shown so elsewhere."""
    if form == "by":
        return word == "by"
    if form == "PRIMES":
        return are_primes(word) if sure else primes_written(word) is not None
    number = number_in(word)
    if number is None:
        return False
    if form == "N":
        return 2 <= number <= GREATEST
    if form == "K":
        return 1 <= number <= GREATEST
    return form == "A" or number >= 0


def wrong_word(line, sure):
    """The number of the line's first word that isn't so, or how many there are where one lacks; else None."""
    words = line.split(" ")
    if words[0] not in FORMS:
        return 0
    forms = FORMS[words[0]]
    for at, (form, word) in enumerate(zip(forms, words[1:]), start=1):
        if not is_right_word(form, word, sure):
            return at
    most = len(forms) + 1
    return None if len(words) == most else min(len(words), most)


def parsed(line):
    """The tuple (kind, numbers, primes) of a line that is a question: its first word, its NUMBERs, its PRIMES."""
    words = line.split(" ")
    if "by" in words:
        return (words[0], numbers_in(words[1:-2]), primes_written(words[-1]))
    return (words[0], numbers_in(words[1:]), ())


def numbers_in(words):
    """The tuple of the numbers that the words are the NUMBERs of."""
    return tuple([number_in(word) for word in words])


def written(numbers):
    """The numbers, parted by blanks; none where there are none."""
    return " ".join([str(number) for number in numbers]) if numbers else "none"


def written_pairs(pairs):
    """Each pair X,Y, parted by blanks; none where there are none."""
    return " ".join([f"{x},{y}" for x, y in pairs]) if pairs else "none"


def written_parting(parting):
    """Each PRIME^MANY, parted by blanks."""
    return " ".join([f"{prime}^{many}" for prime, many in parting])
