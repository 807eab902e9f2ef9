"""Conjugates: effects that differ only by where a walker goes first, and by what it turns on the way.

The conjugates of (P, s) are the effects (t ** -k * (P - (1 - t ** s) * X), s), for all k and X.
"""

from dialroad.polynomials import divide_by_one_less, move, subtract, wrapped


def least_start(rows):
    """An index at which the least rotation of a list begins."""
    start, other, same = 0, 1, 0
    while max(start, other) < len(rows) and same < len(rows):
        one = rows[(start + same) % len(rows)]
        two = rows[(other + same) % len(rows)]
        if one == two:
            same += 1
            continue
        # Whichever loses would also lose from each of the indexes where both have been the same so far.
        if one > two:
            start = max(start + same + 1, other)
            other = start + 1
        else:
            other += same + 1
        same = 0
    return start


def way_to_name(prime, effect):
    """By how many places the polynomial is moved to become that of the name, up to multiples of the shift."""
    polynomial, shift = effect
    size = abs(shift)
    sums = wrapped(prime, polynomial, size)
    if not sums:
        return 0
    if shift == 0:
        return -sums[0][0]
    exponents = [exponent for exponent, coefficient in sums]
    gaps = [after - before for before, after in zip(exponents, exponents[1:] + [exponents[0] + size])]
    # Two rotations that begin at exponent 0 first differ in a coefficient, or in the gap that follows it.
    rows = [(coefficient, gap) for (exponent, coefficient), gap in zip(sums, gaps)]
    return -exponents[least_start(rows)]


def conjugacy_name(prime, effect):
    """The effect that stands for all conjugates of an effect."""
    polynomial, shift = effect
    return (wrapped(prime, move(polynomial, way_to_name(prime, effect)), abs(shift)), shift)


def conjugator(prime, one, other):
    """An effect x such that inverse x, one, x, composed in this order, are the other effect, or None."""
    if conjugacy_name(prime, one) != conjugacy_name(prime, other):
        return None
    shift = one[1]
    places = way_to_name(prime, other) - way_to_name(prime, one)
    difference = subtract(prime, one[0], move(other[0], places))
    return (divide_by_one_less(prime, difference, shift), places)
