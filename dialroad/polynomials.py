"""Polynomials modulo a prime: tuples of pairs (exponent, coefficient) with ascending exponents.

Exponents may be negative and very large, so all functions work term by term and never
go through the exponents between two terms.
"""

from dialroad.errors import DivisionByZero
from dialroad.integers import is_whole, reciprocal


def from_sums(prime, sums):
    """The polynomial whose coefficients, before they are reduced, are the values of a dict."""
    return tuple([(exponent, sums[exponent] % prime) for exponent in sorted(sums) if sums[exponent] % prime != 0])


def normalize(prime, pairs):
    """The polynomial that is the sum of terms in any order, with any coefficients."""
    sums = {}
    for exponent, coefficient in pairs:
        sums[exponent] = sums.get(exponent, 0) + coefficient
    return from_sums(prime, sums)


def is_term(prime, value):
    """Whether any value is a pair that a polynomial may contain."""
    if not isinstance(value, tuple) or len(value) != 2:
        return False
    exponent, coefficient = value
    return is_whole(exponent) and is_whole(coefficient) and 1 <= coefficient < prime


def is_polynomial(prime, value):
    """Whether any value is a polynomial modulo the prime."""
    if not isinstance(value, tuple):
        return False
    if not all([is_term(prime, term) for term in value]):
        return False
    return all([term[0] < following[0] for term, following in zip(value, value[1:])])


def add(prime, one, other):
    """The sum of two polynomials."""
    return normalize(prime, one + other)


def subtract(prime, one, other):
    """The first polynomial less the second one."""
    return add(prime, one, scale(prime, other, -1))


def multiply(prime, one, other):
    """The product of two polynomials."""
    sums = {}
    for exponent, coefficient in one:
        for distance, factor in other:
            place = exponent + distance
            sums[place] = sums.get(place, 0) + coefficient * factor
    return from_sums(prime, sums)


def sum_of_products(prime, polynomials, factors):
    """The sum of the products of polynomials and their factors."""
    total = ()
    for polynomial, factor in zip(polynomials, factors):
        total = add(prime, total, multiply(prime, polynomial, factor))
    return total


def scale(prime, polynomial, factor):
    """The polynomial with every coefficient multiplied by an integer."""
    return normalize(prime, [(exponent, coefficient * factor) for exponent, coefficient in polynomial])


def move(polynomial, places):
    """The polynomial with an integer added to every exponent."""
    return tuple([(exponent + places, coefficient) for exponent, coefficient in polynomial])


def geometric(prime, count, stride):
    """The sum of t ** (k * stride) for k from 0 to count - 1."""
    return normalize(prime, [(k * stride, 1) for k in range(count)])


def one_less(prime, exponent):
    """The polynomial 1 - t ** exponent, which is zero for the exponent 0."""
    return normalize(prime, ((0, 1), (exponent, -1)))


def wrapped(prime, polynomial, size):
    """The polynomial with every exponent replaced by its remainder modulo the size; the same one for the size 0.

    It is zero exactly if 1 - t ** size divides the polynomial.
    """
    if size == 0:
        return polynomial
    return normalize(prime, [(exponent % size, coefficient) for exponent, coefficient in polynomial])


def from_zero(polynomial):
    """The polynomial moved so that its least exponent is 0; the zero polynomial as it is."""
    if not polynomial:
        return polynomial
    return move(polynomial, -polynomial[0][0])


def divide_with_rest(prime, one, other):
    """The quotient, which has no negative exponents, and the rest.

    All exponents of the rest are below the greatest exponent of the other polynomial.
    """
    degree, leading = other[-1]
    unit = reciprocal(prime, leading)
    quotient = {}
    # What is below the degree is never looked through again, however much it becomes.
    rest = {exponent: coefficient for exponent, coefficient in one if exponent < degree}
    above = {exponent: coefficient for exponent, coefficient in one if exponent >= degree}
    while above:
        top = max(above)
        distance = top - degree
        factor = above[top] * unit % prime
        quotient[distance] = factor
        for exponent, coefficient in other:
            place = exponent + distance
            sums = above if place >= degree else rest
            left = (sums.get(place, 0) - factor * coefficient) % prime
            if left == 0:
                del sums[place]
            else:
                sums[place] = left
    return from_sums(prime, quotient), from_sums(prime, rest)


def divide(prime, one, other):
    """The polynomial whose product with the other one is the first, or None if there is none."""
    if not other:
        raise DivisionByZero()
    if not one:
        return ()
    # A power of t divides everything, so only the parts that begin at exponent 0 decide.
    quotient, rest = divide_with_rest(prime, from_zero(one), from_zero(other))
    if rest:
        return None
    return move(quotient, one[0][0] - other[0][0])


def divide_by_one_less(prime, polynomial, exponent):
    """The polynomial whose product with 1 - t ** exponent is the given one, or None; zero by zero is zero."""
    # Most polynomials have no such quotient, and this tells without dividing.
    if wrapped(prime, polynomial, abs(exponent)):
        return None
    if exponent == 0:
        return ()
    return divide(prime, polynomial, one_less(prime, exponent))


def greatest_divisor(prime, one, other):
    """The greatest common divisor, with least exponent 0 and last coefficient 1; zero if both are zero."""
    divisor = from_zero(one)
    rest = from_zero(other)
    while rest:
        remainder = divide_with_rest(prime, divisor, rest)[1]
        # A power of t divides everything, so taking it out keeps the common divisors and saves steps.
        divisor, rest = rest, from_zero(remainder)
    if not divisor:
        return ()
    return scale(prime, divisor, reciprocal(prime, divisor[-1][1]))
