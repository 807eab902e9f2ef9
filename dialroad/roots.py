"""Effects that commute with an effect, and effects whose powers it is."""

from dialroad.effects import compose
from dialroad.errors import ShiftIsZero
from dialroad.integers import reciprocal
from dialroad.polynomials import divide_by_one_less, move, scale, subtract


def commute(prime, one, other):
    """Whether both orders of composing give the same effect."""
    return compose(prime, one, other) == compose(prime, other, one)


def root_of_moving(prime, effect, count):
    """The effect whose power with this count is an effect with a shift other than 0, or None."""
    polynomial, shift = effect
    if shift % count != 0:
        return None
    stride = shift // count
    # The rounds add up to (1 - t ** shift) / (1 - t ** stride) times the polynomial of the root.
    product = subtract(prime, polynomial, move(polynomial, stride))
    quotient = divide_by_one_less(prime, product, shift)
    if quotient is None:
        return None
    return (quotient, stride)


def root(prime, effect):
    """The root and the count: the effect whose power the given one is, for the greatest count."""
    shift = effect[1]
    if shift == 0:
        raise ShiftIsZero()
    count = abs(shift)
    found = root_of_moving(prime, effect, count)
    while found is None:
        count -= 1
        found = root_of_moving(prime, effect, count)
    return (found, count)


def nth_root(prime, effect, count):
    """An effect whose power with this count is the given one, or None."""
    polynomial, shift = effect
    if shift != 0:
        return root_of_moving(prime, effect, count)
    if not polynomial:
        return effect
    if count % prime == 0:
        return None
    return (scale(prime, polynomial, reciprocal(prime, count)), 0)
