"""Values that several tests share. All of them are the same in every run."""

from itertools import product
from random import Random

PRIMES = (2, 3, 5, 7, 97)
FAR = 10 ** 30

# Point 2: what a function that accepts "any value" may be passed, none of it a polynomial or an effect.
OTHER_VALUES = (
    None, True, False, 0, 1, -1, FAR, 10 ** 99, "", "a", "01", "((0, 1),)", "line\nline", [], [()], [(0, 1)],
    {}, {0: 1}, {"a": [1]}, {(0, 1): ((0, 1),)}, [[]], [None], ([],),
)


def polynomial(seed, prime, terms=5, low=-9, high=9):
    """A polynomial of at most that many terms, with exponents from low to high."""
    source = Random(seed)
    exponents = {source.randint(low, high) for _ in range(terms)}
    return tuple((exponent, source.randint(1, prime - 1)) for exponent in sorted(exponents))


def effect(seed, prime, terms=5, low=-9, high=9):
    """An effect with such a polynomial and a shift from low to high."""
    return (polynomial(seed, prime, terms, low, high), Random(-1 - seed).randint(low, high))


def all_polynomials(prime, low, high):
    """All polynomials with exponents from low to high."""
    rows = product(range(prime), repeat=high - low + 1)
    return [tuple((low + at, value) for at, value in enumerate(row) if value) for row in rows]


def values_at(poly):
    """The coefficients of a polynomial by their exponents; it must be well formed."""
    exponents = [exponent for exponent, _ in poly]
    assert exponents == sorted(set(exponents)), poly
    return dict(poly)
