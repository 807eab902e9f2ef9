"""Point 21: conjugates, and the name that stands for all of them."""

import unittest

from dialroad.conjugacy import conjugacy_name, conjugator
from dialroad.polynomials import multiply
from tests.plain import IDENTITY, chained, summed, times, undone
from tests.samples import FAR, PRIMES, all_polynomials, effect, polynomial


def conjugate(prime, one, x):
    """Inverse x, one, x, composed in this order."""
    return chained(prime, [undone(prime, x), one, x])


def plain_name(prime, one):
    """The name, found by comparing all rotations of the class sums."""
    poly, shift = one
    if shift == 0:
        return (times(prime, poly, 1, -poly[0][0]), 0) if poly else one
    size = abs(shift)
    sums = [sum(worth for at, worth in poly if at % size == r) % prime for r in range(size)]
    rotations = [[sums[(r - k) % size] for r in range(size)] for k in range(size)]
    return (min(tuple((r, row[r]) for r in range(size) if row[r]) for row in rotations), shift)


def samples():
    """Effects with shifts of both signs and 0."""
    for prime in PRIMES:
        for seed in range(120):
            poly = polynomial(seed, prime, terms=seed % 12)
            for shift in (0, seed % 9 + 1, -(seed % 9) - 1, 60, -60):
                yield prime, (poly, shift)


class NameTest(unittest.TestCase):
    def test_against_all_rotations(self):
        for prime, one in samples():
            self.assertEqual(conjugacy_name(prime, one), plain_name(prime, one), (prime, one))

    def test_all_small_class_sums(self):
        for prime, size in ((2, 8), (3, 5), (5, 3)):
            for poly in all_polynomials(prime, 0, size - 1):
                for shift in (size, -size):
                    self.assertEqual(conjugacy_name(prime, (poly, shift)), plain_name(prime, (poly, shift)))

    def test_the_identity_and_empty_polynomials(self):
        for prime in PRIMES:
            self.assertEqual(conjugacy_name(prime, IDENTITY), IDENTITY)
            for shift in (1, -1, 7, -60, FAR, -FAR):
                self.assertEqual(conjugacy_name(prime, ((), shift)), ((), shift))
                # All class sums are 0.
                self.assertEqual(conjugacy_name(prime, (((0, 1), (shift, prime - 1))
                                                        if shift > 0 else ((shift, 1), (0, prime - 1)), shift)),
                                 ((), shift))

    def test_shift_0_moves_the_least_exponent_to_0(self):
        self.assertEqual(conjugacy_name(5, (((-3, 2), (1, 4)), 0)), (((0, 2), (4, 4)), 0))
        self.assertEqual(conjugacy_name(5, (((FAR - 1, 2), (FAR, 4)), 0)), (((0, 2), (1, 4)), 0))
        self.assertEqual(conjugacy_name(5, (((-FAR, 2), (FAR, 4)), 0)), (((0, 2), (2 * FAR, 4)), 0))

    def test_the_least_as_python_orders_tuples(self):
        # A coefficient decides before the gap behind it does, and the shorter gap is the lesser one.
        self.assertEqual(conjugacy_name(5, (((0, 2), (1, 1)), 5)), (((0, 1), (4, 2)), 5))
        self.assertEqual(conjugacy_name(5, (((0, 1), (3, 1), (5, 2)), 7)), (((0, 1), (2, 2), (4, 1)), 7))
        self.assertEqual(conjugacy_name(3, (((0, 1), (4, 1)), -6)), (((0, 1), (2, 1)), -6))

    def test_exponents_and_shifts_of_up_to_10_to_the_30(self):
        self.assertEqual(conjugacy_name(3, (((-FAR, 1), (0, 1), (FAR, 1)), FAR)), ((), FAR))
        self.assertEqual(conjugacy_name(3, (((-FAR, 1), (5, 1)), FAR)), (((0, 1), (5, 1)), FAR))
        self.assertEqual(conjugacy_name(3, (((-FAR, 1), (5, 1)), 1 - FAR)), (((0, 1), (6, 1)), 1 - FAR))
        for prime in PRIMES:
            for seed in range(20):
                poly = polynomial(seed, prime, terms=9, low=-FAR, high=FAR)
                for shift in (7, -60, 10 ** 15, FAR, -FAR, FAR - seed):
                    name = conjugacy_name(prime, (poly, shift))
                    x = (polynomial(-seed, prime, low=-FAR, high=FAR), seed * 10 ** 28 - 77)
                    self.assertEqual(conjugacy_name(prime, conjugate(prime, (poly, shift), x)), name)
                    self.assertTrue(all(0 <= at < abs(shift) for at, _ in name[0]))
                    self.assertIn(name[0][:1], [((0, worth),) for worth in range(1, prime)] + [()])

    def test_many_terms(self):
        for worth in ((1,), (1, 2), (1, 1, 2), (2, 1, 1, 1, 3)):
            poly = tuple((at, worth[at % len(worth)]) for at in range(400))
            for shift in (400, -400, 401, 399, 10 ** 9):
                one = (poly, shift)
                self.assertEqual(conjugacy_name(97, conjugate(97, one, (((3, 1),), 123))), conjugacy_name(97, one))

    def test_a_product_that_was_returned(self):
        one = tuple((at, 1) for at in range(400))
        other = tuple((400 * at, 1 + at % 2) for at in range(400))
        poly = multiply(97, one, other)
        self.assertEqual(len(poly), 160000)
        self.assertEqual(conjugacy_name(97, (poly, 160000))[0][0], (0, 1))

    def test_a_name_is_its_own_name(self):
        for prime, one in samples():
            name = conjugacy_name(prime, one)
            self.assertEqual(conjugacy_name(prime, name), name)


class ConjugatesTest(unittest.TestCase):
    def check(self, prime, one, other):
        """A conjugator is returned if and only if the names are equal, and it does what the point says."""
        found = conjugator(prime, one, other)
        self.assertEqual(found is not None, conjugacy_name(prime, one) == conjugacy_name(prime, other), (one, other))
        if found is not None:
            self.assertEqual(conjugate(prime, one, found), other)
        return found is not None

    def test_conjugates_made_by_composing(self):
        for prime, one in samples():
            for seed in (1, 2):
                x = effect(seed * 31 + one[1], prime, low=-30, high=30)
                self.assertTrue(self.check(prime, one, conjugate(prime, one, x)), (prime, one, x))

    def test_one_coefficient_or_the_shift_changed(self):
        found = set()
        for prime, one in samples():
            for at in (-4, 0, 3, 9):
                self.assertFalse(self.check(prime, one, (summed(prime, one[0], ((at, 1),)), one[1])))
            found.add(self.check(prime, one, (one[0], one[1] + 1)))
            found.add(self.check(prime, one, (one[0], -one[1])) and one[1] != 0)
            # Two coefficients changed may be a conjugate.
            found.add(self.check(prime, one, (summed(prime, one[0], ((0, 1), (4, prime - 1))), one[1])))
        self.assertEqual(found, {False, True})

    def test_against_trying_all_rotations_of_small_effects(self):
        for prime, shift in ((2, 1), (2, 2), (2, -3), (3, 2), (3, 0), (2, 0)):
            names = {}
            for poly in all_polynomials(prime, -1, 2):
                names.setdefault(plain_name(prime, (poly, shift)), []).append((poly, shift))
            for name, members in names.items():
                for one in members:
                    self.assertTrue(self.check(prime, members[0], one))
                for other, strangers in names.items():
                    self.assertEqual(self.check(prime, members[0], strangers[-1]), name == other)

    def test_different_shifts_are_never_conjugate(self):
        self.assertIsNone(conjugator(2, ((), 1), ((), -1)))
        self.assertIsNone(conjugator(2, ((), 0), ((), 1)))
        self.assertIsNone(conjugator(3, (((0, 1),), 2), (((0, 1),), 4)))
        self.assertIsNone(conjugator(3, (((0, 1),), 0), IDENTITY))

    def test_the_identity(self):
        for prime in PRIMES:
            self.assertTrue(self.check(prime, IDENTITY, IDENTITY))

    def test_exponents_up_to_1000(self):
        for shift in (1, -1, 2, -37, 1000, 0):
            one = (tuple((at, 1 + at % 96) for at in range(-700, 700)), shift)
            x = (tuple((at, 1 + at * at % 96) for at in range(-100, 200)), 91)
            self.assertTrue(self.check(97, one, conjugate(97, one, x)))


if __name__ == "__main__":
    unittest.main()
