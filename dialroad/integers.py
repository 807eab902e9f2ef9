"""Integers, and integers modulo a prime: what the other modules share."""

PRIMES = (2, 3, 5, 7, 11, 13, 17, 19, 23, 29, 31, 37, 41, 43, 47, 53, 59, 61, 67, 71, 73, 79, 83, 89, 97)


def is_whole(value):
    """Whether any value is an integer; True and False are none."""
    return isinstance(value, int) and not isinstance(value, bool)


def reciprocal(prime, value):
    """The number from 1 to prime - 1 whose product with the value is 1 modulo the prime."""
    # The primes are below 100, so trying all numbers is cheap.
    for candidate in range(1, prime):
        if candidate * value % prime == 1:
            return candidate
    return None


def common_divisor(one, other):
    """The greatest common divisor of a positive integer and one from 0, and a factor for the first one.

    The factor times the first integer leaves the divisor modulo the second one.
    """
    divisor, rest = one, other
    factor, following = 1, 0
    while rest != 0:
        quotient = divisor // rest
        divisor, rest = rest, divisor - quotient * rest
        factor, following = following, factor - quotient * following
    return divisor, factor
