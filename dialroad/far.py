"""What programs do to the dials, however long they run: no function of this file runs a program."""

from dialroad.programs import shift_of
from dialroad.sums import extremes, negated, terms_of, value_of


def value_at(prime, program, place):
    """The value of the dial at a place after a run from place 0 on a road on which all dials showed 0."""
    return value_of(prime, terms_of(program, 0), place)


def first_difference(prime, one, other):
    """Where the effects of two programs first differ, or None if they are the same.

    It is ("dial", place, value, other value), or ("shift", shift, other shift) if only the shifts differ.
    """
    found = extremes(prime, terms_of(one, 0) + negated(terms_of(other, 0)))
    if found is not None:
        place = found[0]
        return ("dial", place, value_at(prime, one, place), value_at(prime, other, place))
    shift, distance = shift_of(one), shift_of(other)
    if shift != distance:
        return ("shift", shift, distance)
    return None


def extent(prime, program):
    """The least and the greatest place whose dial is not 0 after a run from place 0, or None if there is none."""
    return extremes(prime, terms_of(program, 0))
