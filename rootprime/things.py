"""Small questions about things and papers, which several modules ask."""


def is_whole(thing):
    """Whether it is a whole number: an int that is no truth."""
    return isinstance(thing, int) and not isinstance(thing, bool)


def is_tuple_of(thing, many):
    """Whether it is a tuple of so many things."""
    return isinstance(thing, tuple) and len(thing) == many


def primes_in(parts):
    """The primes of a parting paper, or of an order paper's parts, rising."""
    return [row[0][0] for row in parts]


def parting_in(parts):
    """The parting that a parting paper bears: tuples (prime, many)."""
    return [(row[0][0], row[1]) for row in parts]
