"""Effects: tuples (polynomial, shift) that say what a walker turns and where it ends, from its start."""

from dialroad.integers import is_whole
from dialroad.polynomials import add, geometric, is_polynomial, move, multiply, normalize, scale


def is_effect(prime, value):
    """Whether any value is an effect modulo the prime."""
    if not isinstance(value, tuple) or len(value) != 2:
        return False
    polynomial, shift = value
    return is_polynomial(prime, polynomial) and is_whole(shift)


def compose(prime, one, other):
    """The effect of the first effect followed by the second one."""
    polynomial, shift = one
    further, distance = other
    # The second effect begins where the first one ends.
    return (add(prime, polynomial, move(further, shift)), shift + distance)


def inverse(prime, effect):
    """The effect that undoes the effect."""
    polynomial, shift = effect
    return (move(scale(prime, polynomial, -1), -shift), -shift)


def power(prime, effect, count):
    """The effect repeated count times; the inverse is repeated if count is negative."""
    if count < 0:
        return power(prime, inverse(prime, effect), -count)
    polynomial, shift = effect
    # Round k starts k * shift places from the start, so the rounds add up to a geometric sum.
    return (multiply(prime, polynomial, geometric(prime, count, shift)), count * shift)


def order(prime, effect):
    """The least positive count whose power is the identity, or None."""
    polynomial, shift = effect
    if shift != 0:
        return None
    if not polynomial:
        return 1
    # Each coefficient is from 1 to prime - 1, so prime repetitions are the first to turn it to 0.
    return prime


def apply(prime, effect, dials, place):
    """The dials and the place after a walker at the place has the effect."""
    polynomial, shift = effect
    turned = normalize(prime, list(dials.items()) + list(move(polynomial, place)))
    return (dict(turned), place + shift)
