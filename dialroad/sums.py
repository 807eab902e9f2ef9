"""Sums of terms, each of which stands for turns at very many places.

A term is a tuple (place, coefficient, rounds). Rounds is a tuple of pairs (count, stride), both at least 1, in
ascending order. The term stands for coefficient * t ** place times the product of S(count, stride), where S(n, a) is
the sum of t ** (k * a) for k from 0 to n - 1.
"""

from dialroad.integers import common_divisor
from dialroad.programs import shift_of

PLACES_TO_TRY = 30


def repeated(term, count, stride):
    """The sum of count copies of a term, each the stride further than the one before; count is at least 1."""
    place, coefficient, rounds = term
    if stride == 0 or count == 1:
        return (place, coefficient * count, rounds)
    if stride < 0:
        # The same copies, counted from the last one.
        place += (count - 1) * stride
    return (place, coefficient, tuple(sorted(rounds + ((count, abs(stride)),))))


def terms_of(program, place):
    """The terms whose sum is what a program turns if it is run from a place."""
    terms = []
    for instruction in program:
        word, count = instruction[0], instruction[1]
        if word == "step":
            place += count
        elif word == "turn":
            terms.append((place, count, ()))
        elif count > 0:
            stride = shift_of(instruction[2])
            terms.extend([repeated(term, count, stride) for term in terms_of(instruction[2], place)])
            place += count * stride
    return terms


def negated(terms):
    """The terms with opposite coefficients."""
    return [(place, -coefficient, rounds) for place, coefficient, rounds in terms]


def pairs_at(one, other, distance):
    """How many pairs (j, k) from two rounds have j * stride + k * other stride equal to the distance."""
    count, stride = one
    number, pace = other
    divisor, factor = common_divisor(stride, pace)
    if distance % divisor != 0:
        return 0
    # The j that solve the equation for some k are the numbers that leave this rest modulo the period.
    period = pace // divisor
    rest = distance // divisor * factor % period
    # This k is at least 0 if j is at most distance // stride, and below number if j is at least the other bound.
    greatest = min(count - 1, distance // stride)
    least = max(0, -((pace * (number - 1) - distance) // stride))
    return max(0, (greatest - rest) // period - (least - 1 - rest) // period)


def ways_at(rounds, distance):
    """The coefficient of t ** distance in the product of S(count, stride) over all rounds."""
    if not rounds:
        return 1 if distance == 0 else 0
    if len(rounds) > 2:
        # Only a program of depth 3 or more, which is not valid, has such a term: its shortest round is written out.
        count, stride = rounds[0]
        return sum([ways_at(rounds[1:], distance - k * stride) for k in range(count)])
    # S(1, 1) is 1, so it may stand for a round that is not there.
    one, other = (rounds + ((1, 1),))[:2]
    return pairs_at(one, other, distance)


def value_of(prime, terms, place):
    """The value at a place of a sum of terms."""
    return sum([coefficient * ways_at(rounds, place - start) for start, coefficient, rounds in terms]) % prime


def without_zeros(prime, groups):
    """The groups with coefficients modulo the prime, without those that are 0 and without groups that are empty."""
    found = {}
    for rounds in groups:
        sums = groups[rounds]
        left = {place: sums[place] % prime for place in sums if sums[place] % prime != 0}
        if left:
            found[rounds] = left
    return found


def grouped(prime, terms):
    """A dict from rounds to what is multiplied by them: dicts from places to coefficients that are not 0."""
    groups = {}
    for place, coefficient, rounds in terms:
        sums = groups.setdefault(rounds, {})
        sums[place] = sums.get(place, 0) + coefficient
    return without_zeros(prime, groups)


def strides_of(groups):
    """The strides of all groups, each as often as the group that has it most often."""
    most = {}
    for rounds in groups:
        strides = [stride for count, stride in rounds]
        for stride in strides:
            most[stride] = max(most.get(stride, 0), strides.count(stride))
    return [stride for stride in most for k in range(most[stride])]


def without_stride(prime, groups, stride):
    """The groups multiplied by 1 - t ** stride, with one round of this stride less where there is one."""
    found = {}
    for rounds in groups:
        places = stride
        others = list(rounds)
        for count, pace in rounds:
            if pace == stride:
                # (1 - t ** a) * S(n, a) is 1 - t ** (n * a).
                places = count * stride
                others.remove((count, pace))
                break
        sums = found.setdefault(tuple(others), {})
        for place, coefficient in groups[rounds].items():
            sums[place] = sums.get(place, 0) + coefficient
            sums[place + places] = sums.get(place + places, 0) - coefficient
    return without_zeros(prime, found)


def extremes(prime, terms):
    """The least and the greatest place where a sum of terms is not 0, as a tuple, or None if there is none."""
    groups = grouped(prime, terms)
    strides = strides_of(groups)
    # The product with all 1 - t ** stride has few terms, however many places the rounds stand for.
    for stride in strides:
        groups = without_stride(prime, groups, stride)
    if not groups:
        return None
    # Each factor 1 - t ** stride keeps the least exponent and adds its stride to the greatest one.
    return (min(groups[()]), max(groups[()]) - sum(strides))


def is_zero(prime, terms):
    """Whether a sum of terms is 0 at all places."""
    groups = grouped(prime, terms)
    left = [(place, sums[place], rounds) for rounds, sums in groups.items() for place in sums]
    # If terms do not cancel, this is almost always seen where the first of them stand, without the long product.
    for place in sorted([term[0] for term in left])[:PLACES_TO_TRY]:
        if value_of(prime, left, place) != 0:
            return False
    return extremes(prime, left) is None
