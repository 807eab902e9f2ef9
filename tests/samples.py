"""Values that several tests share. All of them are the same in every run."""

from itertools import product
from random import Random

PRIMES = (2, 3, 5, 7, 97)
FAR = 10 ** 30

# Point 2: what a function that accepts "any value" may be passed, none of it a polynomial or an effect. The empty
# list is a program; all other values are none.
OTHER_VALUES = (
    None, True, False, 0, 1, -1, FAR, 10 ** 99, "", "a", "01", "((0, 1),)", "line\nline", [], [()], [(0, 1)],
    {}, {0: 1}, {"a": [1]}, {(0, 1): ((0, 1),)}, [[]], [None], ([],),
)


def polynomial(seed, prime, terms=5, low=-9, high=9):
    """A polynomial of at most that many terms, with exponents from low to high."""
    source = Random(seed)
    exponents = {source.randint(low, high) for _ in range(terms)}
    return tuple((exponent, source.randint(1, prime - 1)) for exponent in sorted(exponents))


def effect(seed, prime, terms=5, low=-9, high=9):
    """An effect with such a polynomial and a shift from low to high."""
    return (polynomial(seed, prime, terms, low, high), Random(-1 - seed).randint(low, high))


def all_polynomials(prime, low, high):
    """All polynomials with exponents from low to high."""
    rows = product(range(prime), repeat=high - low + 1)
    return [tuple((low + at, value) for at, value in enumerate(row) if value) for row in rows]


def values_at(poly):
    """The coefficients of a polynomial by their exponents; it must be well formed."""
    exponents = [exponent for exponent, _ in poly]
    assert exponents == sorted(set(exponents)), poly
    return dict(poly)


def ran(prime, program, dials=None, place=0):
    """The dials and the place after a run from a place, carried out one instruction after the other."""
    dials = {} if dials is None else dials
    for instruction in program:
        if instruction[0] == "step":
            place += instruction[1]
        elif instruction[0] == "turn":
            dials[place] = (dials.get(place, 0) + instruction[1]) % prime
        else:
            for _ in range(instruction[1]):
                place = ran(prime, instruction[2], dials, place)[1]
    return {at: dials[at] for at in sorted(dials) if dials[at]}, place


def program(seed, longest=4, most=3, farthest=4):
    """A program of depth at most 2, with at most 5 repeats and with small counts."""
    source = Random(seed)
    left = [5]

    def written(depth):
        found = []
        for _ in range(source.randint(0, longest)):
            word = source.choice(("step", "turn", "repeat"))
            if word != "repeat":
                found.append((word, source.randint(-farthest, farthest)))
            elif depth < 2 and left[0]:
                left[0] -= 1
                found.append((word, source.randint(0, most), written(depth + 1)))
        return found

    return written(0)


def with_lists(one):
    """An equal program with lists for all programs in it."""
    return [row[:2] if row[0] != "repeat" else (*row[:2], with_lists(row[2])) for row in one]


def with_tuples(one):
    """An equal program with tuples for all programs in it."""
    return tuple(row[:2] if row[0] != "repeat" else (*row[:2], with_tuples(row[2])) for row in one)


def repeats(*counts, body=(("step", 1),)):
    """Repeats one inside another, the first count outermost, around a body."""
    inner = list(body)
    for count in reversed(counts):
        inner = [("repeat", count, inner)]
    return inner


# Programs at the bounds of point 13.
PROGRAMS_AT_THE_BOUNDS = (
    [], (), [("step", 0)], (("turn", 0),), [("step", FAR), ("turn", -FAR)], [("step", -FAR), ("turn", FAR)],
    [("repeat", 0, [])], (("repeat", FAR, ()),), [("repeat", FAR, ())], (("repeat", 0, []),),
    repeats(FAR, FAR, body=()), repeats(FAR, FAR, body=[("turn", FAR), ("step", -FAR)]),
    [("step", 1)] * 100, (("turn", -1),) * 100, [("repeat", 2, [("step", 1)] * 99)],
    repeats(2, 3, body=[("turn", 1)] * 98), [("repeat", 1, [])] * 5, [("repeat", 1, [("repeat", 1, [])] * 4)],
    [("repeat", 1, [("repeat", 1, [])]), ("repeat", 1, (("repeat", 1, ()),)), ("repeat", 1, [])],
    [("step", 1)] * 95 + [("repeat", 9, [])] * 5,
    [("repeat", 3, [("repeat", 0, [("step", 1)] * 23)] * 4)] + [("turn", 1)] * 3,
    [("turn", 1)] * 49 + [("repeat", 7, [("step", 1)] * 50)],
)


def valid_programs():
    """Valid programs at the bounds and well within them."""
    return list(PROGRAMS_AT_THE_BOUNDS) + [program(seed) for seed in range(60)]
