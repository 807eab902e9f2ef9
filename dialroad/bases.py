"""Bases of sets of polynomials that are closed under sums and under moving by a stride.

The class of an exponent is its remainder modulo the stride. For the stride 0 it is the exponent itself; so each class
has one exponent then, and what is said below for all strides holds for the stride 0 too.
"""

from dialroad.effects import compose, power
from dialroad.polynomials import add, divide_with_rest, is_polynomial, move, multiply, subtract


def class_at(exponent, stride):
    """The class of an exponent."""
    return exponent if stride == 0 else exponent % stride


def class_of(polynomial, stride):
    """The class of a polynomial that is not zero: the least class of its exponents."""
    return min([class_at(exponent, stride) for exponent, coefficient in polynomial])


def part_of(polynomial, stride, place):
    """The part of a polynomial that has this class, moved so that the class stands at exponent 0."""
    part = [(exponent - place, worth) for exponent, worth in polynomial if class_at(exponent, stride) == place]
    return tuple(part)


def rounds_of(shift, stride):
    """How many strides make up a shift, or None if there is no such number; no strides of 0 make up 0."""
    if stride == 0:
        return 0 if shift == 0 else None
    return shift // stride if shift % stride == 0 else None


def mirrored(polynomial):
    """The polynomial with opposite exponents."""
    return tuple([(-exponent, coefficient) for exponent, coefficient in reversed(polynomial)])


def excess(prime, part, divisor):
    """The factor of a divisor whose product leaves of a part only exponents from 0 to less than the width.

    The divisor has the least exponent 0, and the width is its greatest one.
    """
    above = divide_with_rest(prime, part, divisor)[0]
    # Seen from the other end, what is below 0 stands above 0.
    below = divide_with_rest(prime, move(mirrored(part), -1), mirrored(divisor))[0]
    return add(prime, above, move(mirrored(below), -1))


def rest_of(prime, stride, basis, polynomial):
    """The reduced polynomial that differs from the given one by sums of moved basis polynomials."""
    # A basis polynomial has no exponent of a lower class, so what was reduced stays so.
    for row in basis:
        place = class_of(row, stride)
        factor = excess(prime, part_of(polynomial, stride, place), part_of(row, stride, place))
        polynomial = subtract(prime, polynomial, multiply(prime, factor, row))
    return polynomial


def windows_of(stride, basis):
    """The widths of the basis polynomials by their classes."""
    windows = {}
    for row in basis:
        place = class_of(row, stride)
        windows[place] = part_of(row, stride, place)[-1][0]
    return windows


def is_in_windows(stride, windows, polynomial):
    """Whether all exponents of each class lie from the class to less than the class plus its width."""
    for exponent, coefficient in polynomial:
        place = class_at(exponent, stride)
        if place in windows and not place <= exponent < place + windows[place]:
            return False
    return True


def begins_well(stride, row):
    """Whether a polynomial that is not zero has a part in its own class as a basis polynomial has."""
    place = class_of(row, stride)
    part = part_of(row, stride, place)
    return part[0][0] == 0 and part[-1][1] == 1


def is_basis(prime, stride, value):
    """Whether any value is a basis for the stride, in the one form that a basis has."""
    if not isinstance(value, list):
        return False
    if not all([is_polynomial(prime, row) and row != () for row in value]):
        return False
    if not all([begins_well(stride, row) for row in value]):
        return False
    places = [class_of(row, stride) for row in value]
    if not all([place < following for place, following in zip(places, places[1:])]):
        return False
    windows = windows_of(stride, value)
    for place, row in zip(places, value):
        others = tuple([term for term in row if class_at(term[0], stride) != place])
        if not is_in_windows(stride, windows, others):
            return False
    return True


def is_translation(stride, basis, effect):
    """Whether an effect is the translation of a set with this stride and this basis."""
    polynomial, shift = effect
    if shift != stride:
        return False
    if stride == 0:
        return polynomial == ()
    return is_in_windows(stride, windows_of(stride, basis), polynomial)


def is_member(prime, stride, translation, basis, effect):
    """Whether an effect is in the set with this stride, translation and basis."""
    rounds = rounds_of(effect[1], stride)
    if rounds is None:
        return False
    polynomial = compose(prime, effect, power(prime, translation, -rounds))[0]
    return rest_of(prime, stride, basis, polynomial) == ()
