"""Small questions about things, which several modules ask."""


def is_whole(thing):
    """Whether it is a whole number: an int that is no truth."""
    return isinstance(thing, int) and not isinstance(thing, bool)


def is_tuple_of(thing, many):
    """Whether it is a tuple of so many things."""
    return isinstance(thing, tuple) and len(thing) == many
