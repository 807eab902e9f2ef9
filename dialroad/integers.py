"""Integers, and integers modulo a prime: what the other modules share."""


def is_whole(value):
    """Whether any value is an integer; True and False are none."""
    return isinstance(value, int) and not isinstance(value, bool)


def reciprocal(prime, value):
    """The number from 1 to prime - 1 whose product with the value is 1 modulo the prime."""
    # The primes are below 100, so trying all numbers is cheap.
    for candidate in range(1, prime):
        if candidate * value % prime == 1:
            return candidate
    return None
