"""Small questions about things and papers, which several modules ask."""

# How many roots, pairs or powers are told at most, and how many primes are taken together.
MOST_TOLD = 400
MOST_PRIMES = 5


def is_whole(thing):
    """Whether it is a whole number: an int that is no truth."""
    return isinstance(thing, int) and not isinstance(thing, bool)


def is_tuple_of(thing, many):
    """Whether it is a tuple of so many things."""
    return isinstance(thing, tuple) and len(thing) == many


def is_pair(thing):
    """Whether the thing is a tuple of two whole numbers."""
    return is_tuple_of(thing, 2) and is_whole(thing[0]) and is_whole(thing[1])


def is_just(thing, right):
    """Whether the thing is just what is right, which is made of whole numbers, texts, None, tuples and lists."""
    # True == 1, so the kinds are looked at ahead of the values, however deep.
    if isinstance(right, tuple):
        return isinstance(thing, tuple) and are_just(thing, right)
    if isinstance(right, list):
        return isinstance(thing, list) and are_just(thing, right)
    return thing == right and is_whole(thing) == is_whole(right)


def are_just(things, rights):
    """Whether there are as many things as right ones, and each is just its right one."""
    return len(things) == len(rights) and all([is_just(thing, right) for thing, right in zip(things, rights)])


def product_of(numbers):
    """The product of the numbers; 1 of none."""
    product = 1
    for number in numbers:
        product *= number
    return product


def primes_in(parts):
    """The primes of a parting paper, or of an order paper's parts, rising."""
    return [row[0][0] for row in parts]


def parting_in(parts):
    """The parting that a parting paper bears: tuples (prime, many)."""
    return [(row[0][0], row[1]) for row in parts]
