"""Point 22: effects that commute, roots and roots of a given count."""

import unittest

from dialroad.errors import ShiftIsZero
from dialroad.roots import commute, nth_root, root
from tests.plain import IDENTITY, followed, repeated, summed, times
from tests.samples import PRIMES, all_polynomials, effect, polynomial


def plain_root(prime, one):
    """The root, found by trying all counts, the greatest first: the terms of a root follow one after the other."""
    for count in range(abs(one[1]), 0, -1):
        found = divided(prime, one, count)
        if found is not None:
            return found, count
    return None


def divided(prime, one, count):
    """The effect whose power with this count is an effect with a shift, found term by term, or None."""
    poly, shift = one
    if shift % count:
        return None
    stride = shift // count
    rounds = repeated(prime, (((0, 1),), stride), count)[0]
    low, unit = rounds[0]
    back = next(k for k in range(1, prime) if k * unit % prime == 1)
    found, rest = (), poly
    while rest and rest[-1][0] - rest[0][0] >= rounds[-1][0] - low:
        at, worth = rest[0][0] - low, rest[0][1] * back % prime
        found = summed(prime, found, ((at, worth),))
        rest = summed(prime, rest, times(prime, rounds, -worth, at))
    return None if rest else (found, stride)


def small_effects():
    """Effects with small polynomials and shifts of both signs."""
    for prime in (2, 3, 5, 97):
        for seed in range(25):
            for shift in (1, -1, 2, -3, 4, -5):
                yield prime, (polynomial(seed, prime, terms=seed % 5, low=-4, high=4), shift)


class CommuteTest(unittest.TestCase):
    def test_against_both_orders_of_composing(self):
        found = set()
        for prime in (2, 3, 97):
            effects = [effect(seed, prime, terms=2, low=-1, high=1) for seed in range(30)]
            effects += [IDENTITY, ((), 1), ((), -2), (((0, 1),), 0)]
            effects += [repeated(prime, one, count) for one in effects[:6] for count in (-2, -1, 2, 3)]
            for one in effects:
                for other in effects:
                    same = followed(prime, one, other) == followed(prime, other, one)
                    self.assertIs(commute(prime, one, other), same)
                    found.add(same)
        self.assertEqual(found, {True, False})

    def test_powers_of_the_root_and_no_others(self):
        for prime, one in small_effects():
            of_root, count = root(prime, one)
            for k in (-3, -1, 0, 1, 2, 5):
                self.assertIs(commute(prime, one, repeated(prime, of_root, k)), True)
            for at in (-3, 0, 2):
                self.assertIs(commute(prime, one, (summed(prime, of_root[0], ((at, 1),)), of_root[1])), False)

    def test_all_small_effects_that_commute_are_powers_of_the_root(self):
        for prime, one in ((2, (((0, 1), (1, 1)), 2)), (3, (((0, 1), (1, 1)), 2)), (2, ((), -2)), (3, (((1, 2),), -1))):
            of_root = root(prime, one)[0]
            powers = {repeated(prime, of_root, k) for k in range(-4, 5)}
            for poly in all_polynomials(prime, -2, 2):
                for shift in (-2, -1, 0, 1, 2):
                    other = (poly, shift)
                    self.assertEqual(commute(prime, one, other), other in powers, (one, other))

    def test_long_effects(self):
        one = (tuple((at, 1 + at % 96) for at in range(-60, 61)), 60)
        self.assertIs(commute(97, one, repeated(97, one, 16)), True)
        self.assertIs(commute(97, one, (one[0], 59)), False)
        self.assertIs(commute(97, (one[0], 0), (one[0][:5], 0)), True)


class RootTest(unittest.TestCase):
    def test_powers_of_small_effects(self):
        for prime, one in small_effects():
            for count in (1, 2, 3, 5, 6):
                whole = repeated(prime, one, count)
                found = root(prime, whole)
                self.assertEqual(found, plain_root(prime, whole))
                self.assertEqual(repeated(prime, *found), whole)
                self.assertEqual(found[1] % count, 0)

    def test_one_coefficient_changed(self):
        counts = set()
        for prime, one in small_effects():
            whole = repeated(prime, one, 4)
            for at in (-5, 0, 1, 7):
                changed = (summed(prime, whole[0], ((at, 1),)), whole[1])
                found = root(prime, changed)
                self.assertEqual(found, plain_root(prime, changed))
                self.assertEqual(repeated(prime, *found), changed)
                counts.add(found[1])
        self.assertIn(1, counts)

    def test_all_small_polynomials(self):
        for prime in (2, 3):
            for poly in all_polynomials(prime, -2, 3):
                for shift in (4, -4, 6):
                    self.assertEqual(root(prime, (poly, shift)), plain_root(prime, (poly, shift)))

    def test_empty_polynomials(self):
        for shift in (1, -1, 12, -60, 1000):
            self.assertEqual(root(3, ((), shift)), (((), 1 if shift > 0 else -1), abs(shift)))

    def test_the_count_is_positive_and_the_root_goes_the_same_way(self):
        self.assertEqual(root(2, (((0, 1), (1, 1)), 2)), ((((0, 1),), 1), 2))
        self.assertEqual(root(2, (((0, 1), (1, 1)), -2)), ((((1, 1),), -1), 2))
        self.assertEqual(root(3, (((0, 1), (1, 2)), 2)), ((((0, 1), (1, 2)), 2), 1))

    def test_shift_0_exactly(self):
        for prime in PRIMES:
            for poly in ((), ((0, 1),), ((-3, 1), (4, 1))):
                with self.assertRaises(ShiftIsZero):
                    root(prime, (poly, 0))
                root(prime, (poly, 1))
                root(prime, (poly, -1))

    def test_long_effects(self):
        one = (tuple((at, 1 + at * at % 96) for at in range(-60, 61)), 1)
        for count in (60, 360, 840):
            self.assertEqual(root(97, repeated(97, one, count)), (one, count))
            changed = (repeated(97, one, count)[0][:-1], count)
            self.assertEqual(root(97, changed), (changed, 1))


class NthRootTest(unittest.TestCase):
    def test_powers(self):
        for prime in (2, 3, 97):
            for seed in range(6):
                for shift in (1, -1, 3):
                    one = (polynomial(seed, prime, terms=seed, low=-3, high=3), shift)
                    for count in range(1, 61):
                        whole = repeated(prime, one, count)
                        # The root of this count is the only one, as an effect with a shift has one root.
                        self.assertEqual(nth_root(prime, whole, count), one)

    def test_where_there_is_none(self):
        found = set()
        for prime, one in small_effects():
            for count in (2, 3, 4, 5, 7, 60):
                expected = divided(prime, one, count)
                self.assertEqual(nth_root(prime, one, count), expected)
                found.add(expected is None)
        self.assertEqual(found, {True, False})
        self.assertIsNone(nth_root(2, (((0, 1),), 2), 2))
        self.assertIsNone(nth_root(2, ((), 3), 2))
        self.assertIsNone(nth_root(2, ((), 1), 60))

    def test_shift_0(self):
        for prime in (2, 3, 5, 59, 97):
            for count in range(1, 61):
                one = (((-2, 1), (5, prime - 1)), 0)
                found = nth_root(prime, one, count)
                if count % prime == 0:
                    self.assertIsNone(found)
                else:
                    self.assertEqual(repeated(prime, found, count), one)

    def test_the_identity(self):
        for prime in PRIMES:
            for count in range(1, 61):
                self.assertEqual(repeated(prime, nth_root(prime, IDENTITY, count), count), IDENTITY)

    def test_counts_of_1(self):
        for prime, one in small_effects():
            self.assertEqual(nth_root(prime, one, 1), one)
            self.assertEqual(nth_root(prime, (one[0], 0), 1), (one[0], 0))


if __name__ == "__main__":
    unittest.main()
