"""Recipes: how effects are composed of the effects of a list and of their inverses."""

from dialroad.bases import rounds_of
from dialroad.effects import compose, power
from dialroad.integers import common_divisor, is_whole
from dialroad.polynomials import is_polynomial, sum_of_products

FARTHEST_POWER = 200
FARTHEST_COUNT = 100


def stride_of(effects):
    """The greatest common divisor of all shifts, 0 if all of them are 0."""
    stride = 0
    for polynomial, shift in effects:
        if shift != 0:
            stride = common_divisor(abs(shift), stride)[0]
    return stride


def fewest_powers(shifts, stride):
    """One power for each shift, as few rounds as possible, whose products with the shifts sum to the stride."""
    farthest = max([0] + [abs(shift) for shift in shifts])
    units = [(at, sign) for at in range(len(shifts)) for sign in (1, -1)]
    reached = {0: [0] * len(shifts)}
    front = [0]
    while stride not in reached:
        following = []
        for place in front:
            for at, sign in units:
                total = place + sign * shifts[at]
                # Rounds can be ordered so that no sum of the first ones is farther from 0 than one shift.
                if abs(total) <= farthest and total not in reached:
                    powers = list(reached[place])
                    powers[at] += sign
                    reached[total] = powers
                    following.append(total)
        front = following
    return reached[stride]


def composed(prime, effects, powers):
    """The composition of the effects in order, each to its power."""
    total = ((), 0)
    for effect, count in zip(effects, powers):
        total = compose(prime, total, power(prime, effect, count))
    return total


def without_shifts(prime, effects, step):
    """The polynomials of the effects, each composed with as many inverses of a step as bring its shift to 0."""
    return [compose(prime, effect, power(prime, step, -rounds_of(effect[1], step[1])))[0] for effect in effects]


def is_list_of(size, value):
    """Whether any value is a list with this many entries."""
    return isinstance(value, list) and len(value) == size


def is_near(value, farthest):
    """Whether any value is an integer that is no farther from 0 than the farthest one."""
    return is_whole(value) and abs(value) <= farthest


def are_powers(value, size):
    """Whether any value is a list of this many powers."""
    return is_list_of(size, value) and all([is_near(part, FARTHEST_POWER) for part in value])


def is_factor(prime, stride, value):
    """Whether any value is a polynomial all of whose exponents are multiples of the stride."""
    if not is_polynomial(prime, value):
        return False
    return all([rounds_of(exponent, stride) is not None for exponent, coefficient in value])


def are_factors(prime, stride, value, size):
    """Whether any value is a list of this many factors."""
    return is_list_of(size, value) and all([is_factor(prime, stride, part) for part in value])


def is_recipe(prime, effects, effect, value):
    """Whether any value is a valid recipe that composes an effect of a list of effects."""
    if not isinstance(value, tuple) or len(value) != 4 or value[0] != "recipe":
        return False
    word, powers, count, factors = value
    stride = stride_of(effects)
    if not are_powers(powers, len(effects)) or not is_near(count, FARTHEST_COUNT):
        return False
    if not are_factors(prime, stride, factors, len(effects)):
        return False
    if stride == 0 and any(powers + [count]):
        return False
    step = composed(prime, effects, powers)
    if step[1] != stride:
        return False
    total = sum_of_products(prime, without_shifts(prime, effects, step), factors)
    return compose(prime, (total, 0), power(prime, step, count)) == effect
