"""Barriers: closed sets that contain a list of effects and lack another effect."""

from dialroad.bases import is_basis, is_member, is_translation
from dialroad.effects import is_effect
from dialroad.integers import is_whole


def is_closed_set(prime, stride, translation, basis):
    """Whether any three values are the stride, the translation and the basis of a set."""
    if not is_whole(stride) or stride < 0:
        return False
    if not is_basis(prime, stride, basis) or not is_effect(prime, translation):
        return False
    return is_translation(stride, basis, translation)


def is_barrier(prime, effects, effect, value):
    """Whether any value is a valid barrier between a list of effects and an effect."""
    if not isinstance(value, tuple) or len(value) != 4 or value[0] != "barrier":
        return False
    word, stride, translation, basis = value
    if not is_closed_set(prime, stride, translation, basis):
        return False
    if not all([is_member(prime, stride, translation, basis, inner) for inner in effects]):
        return False
    return not is_member(prime, stride, translation, basis, effect)
