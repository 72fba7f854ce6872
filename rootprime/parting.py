"""Stage 3: primes, and the parting of a number into primes."""

from rootprime.errors import NoNumber, TooFar

# The greatest number that is parted, and up to which primes are listed.
GREATEST = 10 ** 9
GREATEST_LISTED = 10000


def primes_to(n):
    """The primes up to n, rising."""
    if n > GREATEST_LISTED:
        raise TooFar(n)
    struck = [False] * (max(n, 0) + 1)
    primes = []
    for number in range(2, n + 1):
        if not struck[number]:
            primes.append(number)
            for multiple in range(number * number, n + 1, number):
                struck[multiple] = True
    return primes


def least_divisor(n):
    """The least number from 2 on that divides n."""
    if n < 2:
        raise NoNumber()
    if n > GREATEST:
        raise TooFar(n)
    return least_divisor_from(n, 2)


def least_divisor_from(n, start):
    """The least divisor of n, where none is below start; start is 2 or odd."""
    number = start
    # Of two numbers whose product is n one has a square up to n.
    while number * number <= n:
        if n % number == 0:
            return number
        number += 1 if number == 2 else 2
    return n


def parted(n):
    """The parting of n: tuples (prime, many), the primes rising."""
    if n < 1:
        raise NoNumber()
    if n > GREATEST:
        raise TooFar(n)
    parting = []
    left = n
    prime = 2
    while left > 1:
        prime = least_divisor_from(left, prime)
        many = 0
        while left % prime == 0:
            left //= prime
            many += 1
        parting.append((prime, many))
    return parting


def whole_of(parting):
    """The number whose parting it is."""
    whole = 1
    for prime, many in parting:
        for turn in range(many):
            whole *= prime
    return whole


def divisors(parting):
    """All numbers from 1 on that divide the parting's number, rising."""
    found = [1]
    for prime, many in parting:
        layer = found
        for turn in range(many):
            layer = [number * prime for number in layer]
            found = found + layer
    return sorted(found)


def coprimes(parting):
    """How many numbers from 1 to the parting's number have with it the divisor 1."""
    many_coprimes = whole_of(parting)
    for prime, many in parting:
        many_coprimes = many_coprimes // prime * (prime - 1)
    return many_coprimes
