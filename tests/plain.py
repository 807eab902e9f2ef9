"""The words of points 11, 12, 23 to 28 and 30 as plain code, without any code of the program."""

from random import Random

IDENTITY = ((), 0)


def tidy(prime, sums):
    """The polynomial of a dict from exponents to coefficients of any size."""
    return tuple((at, sums[at] % prime) for at in sorted(sums) if sums[at] % prime)


def summed(prime, *polynomials):
    """The sum of polynomials."""
    sums = {}
    for one in polynomials:
        for at, worth in one:
            sums[at] = sums.get(at, 0) + worth
    return tidy(prime, sums)


def product(prime, one, other):
    """The product of two polynomials."""
    sums = {}
    for at, worth in one:
        for place, factor in other:
            sums[at + place] = sums.get(at + place, 0) + worth * factor
    return tidy(prime, sums)


def times(prime, one, factor, places=0):
    """The polynomial multiplied by an integer and moved."""
    return tidy(prime, {at + places: worth * factor for at, worth in one})


def followed(prime, one, other):
    """The first effect followed by the second one."""
    return (summed(prime, one[0], times(prime, other[0], 1, one[1])), one[1] + other[1])


def undone(prime, effect):
    """The effect that takes an effect back."""
    return (times(prime, effect[0], -1, -effect[1]), -effect[1])


def repeated(prime, effect, count):
    """The effect or its inverse, one time after the other."""
    one = effect if count >= 0 else undone(prime, effect)
    total = IDENTITY
    for _ in range(abs(count)):
        total = followed(prime, total, one)
    return total


def chained(prime, effects):
    """Effects one after the other."""
    total = IDENTITY
    for effect in effects:
        total = followed(prime, total, effect)
    return total


def divisor_of(numbers):
    """The greatest common divisor, found by trying; 0 if all numbers are 0."""
    largest = max([abs(number) for number in numbers], default=0)
    return next((k for k in range(largest, 0, -1) if all(number % k == 0 for number in numbers)), 0)


def holds_recipe(prime, generators, effect, value):
    """Whether a recipe, whose parts have the right kinds, is valid in the words of point 27."""
    word, powers, count, factors = value
    stride = divisor_of([shift for _, shift in generators])
    if word != "recipe" or len(powers) != len(generators) or len(factors) != len(generators):
        return False
    if any(abs(k) > 200 for k in powers) or abs(count) > 100:
        return False
    if stride == 0 and (count or any(powers)):
        return False
    step = chained(prime, [repeated(prime, one, k) for one, k in zip(generators, powers)])
    if step[1] != stride:
        return False
    total = ()
    for one, factor in zip(generators, factors):
        if any(at % stride if stride else at for at, _ in factor):
            return False
        back = repeated(prime, step, -one[1] // stride if stride else 0)
        polynomial, shift = followed(prime, one, back)
        assert shift == 0
        total = summed(prime, total, product(prime, polynomial, factor))
    return followed(prime, (total, 0), repeated(prime, step, count)) == effect


def classes_of(stride, polynomial):
    """A dict from classes, ascending, to the exponents that have them."""
    found = {}
    for at, _ in polynomial:
        found.setdefault(at % stride, []).append(at)
    return {place: found[place] for place in sorted(found)}


def widths(stride, basis):
    """A dict from the classes of basis polynomials to their widths."""
    found = {}
    for row in basis:
        place, exponents = next(iter(classes_of(stride, row).items()))
        found[place] = exponents[-1] - exponents[0]
    return found


def has_form(prime, stride, translation, basis):
    """Whether a basis and a translation have the form of points 24 to 26, entry by entry."""
    if any(not row for row in basis):
        return False
    if stride == 0:
        least = [row[0][0] for row in basis]
        if translation != IDENTITY or least != sorted(set(least)) or any(row[0][1] != 1 for row in basis):
            return False
        return all(least.count(at) == (at == row[0][0]) for row in basis for at, _ in row)
    width = widths(stride, basis)
    if list(width) != sorted(width) or len(width) != len(basis) or translation[1] != stride:
        return False
    for place, row in zip(width, basis):
        own = classes_of(stride, row)[place]
        if own[0] != place or dict(row)[own[-1]] != 1:
            return False
        if not is_reduced(stride, {r: w for r, w in width.items() if r != place}, row):
            return False
    return is_reduced(stride, width, translation[0])


def is_reduced(stride, width, polynomial):
    """Whether the exponents of the classes in a dict of widths are where a reduced polynomial has them."""
    found = classes_of(stride, polynomial)
    return all(r <= at < r + width[r] for r in width for at in found.get(r, []))


def remainder(prime, stride, basis, polynomial):
    """What is left of a polynomial after taking away basis polynomials, one term after the other."""
    if stride == 0:
        for row in basis:
            polynomial = summed(prime, polynomial, times(prime, row, -dict(polynomial).get(row[0][0], 0)))
        return polynomial
    for row, (place, width) in zip(basis, widths(stride, basis).items()):
        low = dict(row)[place]
        back = next(k for k in range(1, prime) if k * low % prime == 1)
        while True:
            values = dict(polynomial)
            exponents = classes_of(stride, polynomial).get(place, [])
            if exponents and exponents[-1] >= place + width:
                at = exponents[-1]
                polynomial = summed(prime, polynomial, times(prime, row, -values[at], at - place - width))
            elif exponents and exponents[0] < place:
                at = exponents[0]
                polynomial = summed(prime, polynomial, times(prime, row, -values[at] * back, at - place))
            else:
                break
    return polynomial


def belongs(prime, stride, translation, basis, effect):
    """Whether an effect is in a set, in the words of point 26."""
    shift = effect[1]
    if stride == 0:
        return shift == 0 and remainder(prime, 0, basis, effect[0]) == ()
    if shift % stride:
        return False
    back = repeated(prime, translation, -(shift // stride))
    return remainder(prime, stride, basis, followed(prime, effect, back)[0]) == ()


def holds_barrier(prime, generators, effect, value):
    """Whether a barrier, whose parts have the right kinds, is valid in the words of point 27."""
    word, stride, translation, basis = value
    if word != "barrier" or stride < 0 or not has_form(prime, stride, translation, basis):
        return False
    if not all(belongs(prime, stride, translation, basis, one) for one in generators):
        return False
    return not belongs(prime, stride, translation, basis, effect)


def holds(prime, generators, effect, value):
    """Whether a certificate is valid."""
    if value[0] == "recipe":
        return holds_recipe(prime, generators, effect, value)
    return holds_barrier(prime, generators, effect, value)


def some_polynomial(source, prime, farthest, terms):
    """A polynomial with at most so many terms, as a source of numbers says."""
    exponents = sorted({source.randint(-farthest, farthest) for _ in range(terms)})
    return tuple((at, source.randint(1, prime - 1)) for at in exponents)


def some_list(seed, prime, farthest=4, most=6):
    """A list of effects: some have shift 0 alone, some a stride above 1, some are long and some are short."""
    source = Random(seed)
    stride = source.choice((0, 1, 1, 2, 3, farthest // 2, farthest))
    effects = []
    for _ in range(source.randint(0, most)):
        shift = stride * source.randint(-(farthest // stride), farthest // stride) if stride else 0
        effects.append((some_polynomial(source, prime, farthest, source.choice((0, 1, 2, 4, 2 * farthest))), shift))
    return effects


def some_member(seed, prime, effects, most=5):
    """A member of the set that a list generates: some of its effects and of their inverses, in any order."""
    source = Random(seed)
    chosen = [source.choice(effects) for _ in range(source.randint(0, most) if effects else 0)]
    return chained(prime, [one if source.random() < 0.5 else undone(prime, one) for one in chosen])
