"""The length of an effect: how many unit instructions it takes, and why it takes no fewer."""

from dialroad.errors import TooLong
from dialroad.integers import is_whole

LONGEST_PROGRAM = 10000


def fewest_turns(prime, value):
    """How many unit turns change a dial by a value from 0 to prime - 1, at least."""
    return min(value, prime - value)


def reach(effect):
    """The least and the greatest place that a walker with this effect must visit."""
    polynomial, shift = effect
    places = [0, shift] + [exponent for exponent, coefficient in polynomial]
    return min(places), max(places)


def length(prime, effect):
    """The least number of unit instructions of a program that has this effect."""
    polynomial, shift = effect
    least, greatest = reach(effect)
    turns = sum([fewest_turns(prime, coefficient) for exponent, coefficient in polynomial])
    return 2 * (greatest - least) - abs(shift) + turns


def units(word, count):
    """The unit instructions that step or turn by a count."""
    return [(word, 1 if count > 0 else -1) for k in range(abs(count))]


def shortest_program(prime, effect):
    """A list of unit instructions of the least length; raises TooLong if it has more than 10,000."""
    if length(prime, effect) > LONGEST_PROGRAM:
        raise TooLong(LONGEST_PROGRAM)
    polynomial, shift = effect
    # The walk is shortest if it begins at the end that is away from the shift.
    terms = polynomial if shift >= 0 else polynomial[::-1]
    program = []
    place = 0
    for exponent, coefficient in terms:
        program.extend(units("step", exponent - place))
        forwards = coefficient <= prime - coefficient
        program.extend(units("turn", coefficient if forwards else coefficient - prime))
        place = exponent
    program.extend(units("step", shift - place))
    return program


def length_certificate(prime, effect):
    """A length certificate (turns, stretches) whose counts sum to the length."""
    polynomial, shift = effect
    least, greatest = reach(effect)
    low, high = min(0, shift), max(0, shift)
    turns = [(exponent, fewest_turns(prime, coefficient)) for exponent, coefficient in polynomial]
    stretches = [(least, low, 2), (low, high, 1), (high, greatest, 2)]
    return (turns, [(start, stop, count) for start, stop, count in stretches if start < stop])


def are_rows(value, size):
    """Whether any value is a list of tuples of this many integers."""
    if not isinstance(value, list):
        return False
    if not all([isinstance(row, tuple) and len(row) == size for row in value]):
        return False
    return all([is_whole(part) for row in value for part in row])


def are_turns(prime, polynomial, value):
    """Whether any value is a list of turns, all of them justified by the polynomial."""
    if not are_rows(value, 2):
        return False
    if not all([row[0] < following[0] for row, following in zip(value, value[1:])]):
        return False
    values = dict(polynomial)
    # A place that is no exponent has the value 0, which justifies no turn.
    return all([1 <= count <= fewest_turns(prime, values.get(place, 0)) for place, count in value])


def is_crossed_twice(effect, start, stop):
    """Whether a walker with this effect crosses each edge from start to stop - 1 twice, to an exponent and back."""
    polynomial, shift = effect
    if not polynomial:
        return False
    if start >= max(0, shift):
        return polynomial[-1][0] >= stop
    if stop <= min(0, shift):
        return polynomial[0][0] <= start
    return False


def is_stretch(effect, row):
    """Whether a triple of integers is a justified stretch."""
    start, stop, count = row
    if start >= stop:
        return False
    if count == 1:
        return min(0, effect[1]) <= start and stop <= max(0, effect[1])
    return count == 2 and is_crossed_twice(effect, start, stop)


def are_stretches(effect, value):
    """Whether any value is a list of stretches, all of them justified by the effect."""
    if not are_rows(value, 3):
        return False
    if not all([row[1] <= following[0] for row, following in zip(value, value[1:])]):
        return False
    return all([is_stretch(effect, row) for row in value])


def certifies_length(prime, effect, bound, value):
    """Whether any value is a length certificate of justified entries whose sum is at least the bound."""
    if not isinstance(value, tuple) or len(value) != 2:
        return False
    turns, stretches = value
    if not are_turns(prime, effect[0], turns) or not are_stretches(effect, stretches):
        return False
    crossings = sum([(stop - start) * count for start, stop, count in stretches])
    return sum([count for place, count in turns]) + crossings >= bound


def is_turned_most(prime, value):
    """Whether no unit turn takes a dial with this value further from 0."""
    return fewest_turns(prime, value) == prime // 2


def dead_end_depth(prime, effect):
    """The least number of unit instructions that lead from the effect to a longer one."""
    polynomial, shift = effect
    if shift != 0 or not polynomial:
        return 1
    nearer = min(-polynomial[0][0], polynomial[-1][0])
    values = dict(polynomial)
    distance = 0
    # Every place that is passed here is an exponent, so there are few even if the nearer end is far away.
    while distance < nearer and all([is_turned_most(prime, values.get(at, 0)) for at in (-distance, distance)]):
        distance += 1
    return 2 * distance + 1


def product_of(one, other):
    """The product of two series of equal size, cut off at that size."""
    size = len(one)
    return [sum([one[k] * other[at - k] for k in range(at + 1)]) for at in range(size)]


def sum_of(one, other, factor):
    """A series plus another one that is multiplied by a factor."""
    return [worth + factor * more for worth, more in zip(one, other)]


def delayed(series, by):
    """The series with everything moved by so many unit instructions, cut off at the same size."""
    return ([0] * by + series)[:len(series)]


def dial_series(prime, size):
    """How many values of a dial take k unit turns, for each k up to the size."""
    series = [0] * (size + 1)
    for value in range(prime):
        turns = fewest_turns(prime, value)
        if turns <= size:
            series[turns] += 1
    return series


def side_series(dial):
    """The ways to go on beyond 0 and the shift on one side and come back: not at all, or up to an exponent."""
    series = [1] + [0] * (len(dial) - 1)
    part = delayed(sum_of(dial, series, -1), 2)
    while any(part):
        series = sum_of(series, part, 1)
        part = delayed(product_of(part, dial), 2)
    return series


def middle_series(dial):
    """The ways to go from 0 to the shift and to turn the dials there, for all shifts."""
    series = dial
    part = delayed(product_of(dial, dial), 1)
    while any(part):
        # The shifts s and -s have as many effects of each length.
        series = sum_of(series, part, 2)
        part = delayed(product_of(part, dial), 1)
    return series


def count_effects(prime, size):
    """How many effects have exactly this length."""
    if size < 0:
        return 0
    dial = dial_series(prime, size)
    side = side_series(dial)
    return product_of(product_of(side, side), middle_series(dial))[size]
