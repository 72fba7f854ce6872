"""Stage 10: places by several moduli are put together, a number is taken apart."""

from rootprime.rests import divisor, inverse


def put_together(places):
    """The tuple (whole, number) that the places (modulus, number) come to, or ("apart", i, j)."""
    apart = first_apart(places)
    if apart is not None:
        return ("apart", apart[0], apart[1])
    told = (1, 0)
    for place in places:
        told = both_together(told, place)
    return told


def first_apart(places):
    """The tuple (i, j) of the first two places that can't be put together, None where there are no such."""
    for i, one in enumerate(places):
        for j, other in enumerate(places):
            if i < j and are_apart(one, other):
                return (i, j)
    return None


def are_apart(one, other):
    """Whether the numbers of two places aren't alike by the greatest number that divides both moduli."""
    return (one[1] - other[1]) % divisor(one[0], other[0])[0] != 0


def both_together(one, other):
    """The tuple (whole, number) of two places that aren't apart."""
    modulus, number = one
    other_modulus, other_number = other
    g = divisor(modulus, other_modulus)[0]
    left = other_modulus // g
    times = (other_number - number) // g * inverse(left, modulus // g) % left
    whole = modulus * left
    return (whole, (number + modulus * times) % whole)


def taken_apart(number, moduli):
    """The list of the number's rests by the moduli."""
    return [number % modulus for modulus in moduli]
