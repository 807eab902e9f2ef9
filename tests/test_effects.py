"""Points 11 and 12: effects, and what is done with them."""

import unittest

from dialroad.effects import apply, compose, inverse, is_effect, order, power
from tests.samples import FAR, OTHER_VALUES, PRIMES, effect, polynomial

IDENTITY = ((), 0)


def walked(prime, one, dials, place):
    """The dials and the place after a walker has an effect, turned dial by dial as point 11 says."""
    found = dict(dials)
    for exponent, coefficient in one[0]:
        found[place + exponent] = (found.get(place + exponent, 0) + coefficient) % prime
    return {at: found[at] for at in sorted(found) if found[at]}, place + one[1]


class IsEffectTest(unittest.TestCase):
    def test_effects(self):
        for prime, value in (
            (2, IDENTITY), (97, IDENTITY), (3, ((), -FAR)), (3, ((), 10 ** 99)), (2, (((0, 1),), 0)),
            (97, (((-FAR, 96), (FAR, 1)), FAR)), (3, (tuple((k, 2) for k in range(1000)), -1)),
        ):
            self.assertIs(is_effect(prime, value), True, value)

    def test_other_values(self):
        for value in OTHER_VALUES + ((), ((),), ((), 0, 0), (0, ()), (0, 0), "10", ("", 0)):
            self.assertIs(is_effect(3, value), False, value)

    def test_one_part_changed(self):
        for value in (
            [((0, 1),), 2], ([(0, 1)], 2), (([0, 1],), 2), (((0, 1),), [2]), (((0, 1),), (2,)), (((0, 1),), None),
            (((0, 1),), "2"), (((0, 1),), True), (((0, 1),), False), ((), False), ([], 0), ({}, 0), (None, 0), ("", 0),
            (False, 0), (0, 0), (((0, 1),),), (((0, 1),), 2, 0), (((0, 1),), {}), ((0, 1), 2), (2, ((0, 1),)),
            (((0, True),), 2), (((False, 1),), 2), (((0, 0),), 2), (((0, 3),), 2), (((0, 4),), 2), (((0, -1),), 2),
            (((1, 1), (0, 1)), 2), (((0, 1), (0, 1)), 2), (((0, 1, 1),), 2), (((0,),), 2), (((0, None),), 2),
        ):
            self.assertIs(is_effect(3, value), False, value)

    def test_the_prime_decides(self):
        for prime in PRIMES:
            self.assertIs(is_effect(prime, (((0, prime - 1),), 0)), True)
            self.assertIs(is_effect(prime, (((0, prime),), 0)), False)
            self.assertIs(is_effect(prime, (((0, 0),), 0)), False)


class ApplyTest(unittest.TestCase):
    def test_the_identity_changes_nothing(self):
        self.assertEqual(apply(2, IDENTITY, {}, 7), ({}, 7))
        self.assertEqual(apply(5, IDENTITY, {3: 4, -2: 1}, 0), ({-2: 1, 3: 4}, 0))

    def test_a_shift_alone_moves_the_walker(self):
        self.assertEqual(apply(5, ((), -9), {3: 4}, 2), ({3: 4}, -7))

    def test_dials_that_become_zero_are_left_out(self):
        self.assertEqual(apply(2, (((0, 1),), 0), {4: 1}, 4), ({}, 4))
        self.assertEqual(apply(97, (((-1, 96), (1, 2)), 3), {0: 1, 2: 95, 9: 5}, 1), ({9: 5}, 4))

    def test_places_are_ascending(self):
        dials, place = apply(5, (((-1, 1), (0, 2), (8, 3)), 1), {9: 1, -20: 2, 3: 4, 0: 3}, 2)
        self.assertEqual(list(dials.items()), [(-20, 2), (0, 3), (1, 1), (2, 2), (3, 4), (9, 1), (10, 3)])
        self.assertEqual(place, 3)
        dials, place = apply(5, IDENTITY, {9: 1, -20: 2, 3: 4}, 0)
        self.assertEqual(list(dials), [-20, 3, 9])

    def test_far_places(self):
        one = (((-FAR, 1), (FAR, 1)), -FAR)
        self.assertEqual(apply(3, one, {2 * FAR: 2, 0: 1}, FAR), ({0: 2}, 0))
        self.assertEqual(apply(3, one, {FAR: 1}, -FAR), ({-2 * FAR: 1, 0: 1, FAR: 1}, -2 * FAR))

    def test_against_a_walk_dial_by_dial(self):
        for prime in PRIMES:
            for seed in range(30):
                one = effect(seed, prime)
                dials = dict(polynomial(seed + 1000, prime, terms=12))
                found, place = apply(prime, one, dials, seed - 15)
                expected, end = walked(prime, one, dials, seed - 15)
                self.assertEqual((list(found.items()), place), (list(expected.items()), end))

    def test_400_terms_and_400_dials(self):
        one = (tuple((k * FAR // 400, 1 + k % 4) for k in range(400)), FAR)
        dials = {k * FAR // 400: 4 - k % 4 for k in range(399, -1, -1)}
        self.assertEqual(apply(5, one, dials, 0), ({}, FAR))

    def test_changing_the_dicts_changes_nothing_else(self):
        given = {4: 1, 1: 2}
        found, _ = apply(3, IDENTITY, given, 0)
        again, _ = apply(3, IDENTITY, given, 0)
        self.assertEqual(list(given.items()), [(4, 1), (1, 2)])
        found[9] = 1
        self.assertEqual((given, again), ({4: 1, 1: 2}, {1: 2, 4: 1}))
        given[4] = 2
        del given[1]
        self.assertEqual((found, again), ({1: 2, 4: 1, 9: 1}, {1: 2, 4: 1}))
        empty = {}
        found, _ = apply(3, IDENTITY, empty, 0)
        found[1] = 1
        self.assertEqual(empty, {})
        self.assertEqual(apply(3, IDENTITY, {}, 0), ({}, 0))


class ComposeTest(unittest.TestCase):
    def test_the_identity(self):
        for prime in PRIMES:
            one = effect(prime, prime)
            self.assertEqual(compose(prime, one, IDENTITY), one)
            self.assertEqual(compose(prime, IDENTITY, one), one)
            self.assertEqual(compose(prime, IDENTITY, IDENTITY), IDENTITY)

    def test_the_order_matters(self):
        turn, step = (((0, 1),), 0), ((), 1)
        self.assertEqual(compose(2, turn, step), (((0, 1),), 1))
        self.assertEqual(compose(2, step, turn), (((1, 1),), 1))

    def test_shift_zero_and_dials_that_become_zero(self):
        self.assertEqual(compose(2, (((0, 1),), 0), (((0, 1), (1, 1)), 0)), (((1, 1),), 0))
        self.assertEqual(compose(97, (((5, 90),), 3), (((2, 7),), -3)), IDENTITY)

    def test_far_effects(self):
        one, other = (((FAR, 1),), -FAR), (((FAR, 2), (-FAR, 1)), -FAR)
        self.assertEqual(compose(3, one, other), (((-2 * FAR, 1), (0, 2), (FAR, 1)), -2 * FAR))

    def test_one_walk_after_the_other(self):
        for prime in PRIMES:
            for seed in range(30):
                one, other = effect(seed, prime), effect(seed + 1000, prime)
                dials = dict(polynomial(seed + 2000, prime))
                both = compose(prime, one, other)
                self.assertTrue(is_effect(prime, both))
                expected = walked(prime, other, *walked(prime, one, dials, seed))
                self.assertEqual(walked(prime, both, dials, seed), expected)


class InverseTest(unittest.TestCase):
    def test_identity_and_shift_zero(self):
        self.assertEqual(inverse(2, IDENTITY), IDENTITY)
        self.assertEqual(inverse(2, (((3, 1),), 0)), (((3, 1),), 0))
        self.assertEqual(inverse(97, (((3, 1), (4, 96)), 0)), (((3, 96), (4, 1)), 0))
        self.assertEqual(inverse(5, ((), FAR)), ((), -FAR))

    def test_undoes_the_effect_on_both_sides(self):
        for prime in PRIMES:
            for seed in range(30):
                for high in (9, FAR):
                    one = effect(seed, prime, low=-high, high=high)
                    back = inverse(prime, one)
                    self.assertTrue(is_effect(prime, back))
                    self.assertEqual(compose(prime, one, back), IDENTITY)
                    self.assertEqual(compose(prime, back, one), IDENTITY)
                    self.assertEqual(inverse(prime, back), one)
                    self.assertEqual(walked(prime, back, *walked(prime, one, {}, seed)), ({}, seed))


class PowerTest(unittest.TestCase):
    def test_counts_zero_and_one(self):
        for prime in PRIMES:
            one = effect(prime, prime)
            self.assertEqual(power(prime, one, 0), IDENTITY)
            self.assertEqual(power(prime, one, 1), one)
            self.assertEqual(power(prime, one, -1), inverse(prime, one))

    def test_powers_of_the_identity(self):
        for count in (-400, -1, 0, 1, 400):
            self.assertEqual(power(2, IDENTITY, count), IDENTITY)

    def test_shift_zero(self):
        one = (((-1, 1), (4, 3)), 0)
        self.assertEqual(power(5, one, 4), (((-1, 4), (4, 2)), 0))
        self.assertEqual(power(5, one, 5), IDENTITY)
        self.assertEqual(power(5, one, -1), (((-1, 4), (4, 2)), 0))
        self.assertEqual(power(5, one, -400), IDENTITY)
        self.assertEqual(power(97, one, 98), one)

    def test_repeated_one_by_one(self):
        for prime in PRIMES:
            for seed in range(10):
                one = effect(seed, prime)
                back = inverse(prime, one)
                there, away = IDENTITY, IDENTITY
                for count in range(1, 25):
                    there, away = compose(prime, there, one), compose(prime, away, back)
                    self.assertEqual(power(prime, one, count), there)
                    self.assertEqual(power(prime, one, -count), away)

    def test_400_times(self):
        expected = tuple((k * FAR, 1) for k in range(400))
        self.assertEqual(power(2, (((0, 1),), FAR), 400), (expected, 400 * FAR))
        backwards = tuple((-k * FAR, 1) for k in range(400, 0, -1))
        self.assertEqual(power(2, (((0, 1),), FAR), -400), (backwards, -400 * FAR))

    def test_400_terms_400_times(self):
        one = (tuple((k * 10 ** 20, 1 + k % 2) for k in range(400)), 10 ** 26)
        polynomial_of_power, shift = power(3, one, 400)
        self.assertEqual((len(polynomial_of_power), shift), (160000, 400 * 10 ** 26))
        self.assertEqual(polynomial_of_power[400:402], ((10 ** 26, 1), (10 ** 26 + 10 ** 20, 2)))

    def test_a_result_may_be_passed_back(self):
        one = power(2, (((0, 1),), FAR), 400)
        self.assertEqual(power(2, one, 2), power(2, (((0, 1),), FAR), 800))
        self.assertEqual(compose(2, one, inverse(2, one)), IDENTITY)
        self.assertIs(is_effect(2, one), True)


class OrderTest(unittest.TestCase):
    def test_the_identity(self):
        for prime in PRIMES:
            self.assertEqual(order(prime, IDENTITY), 1)

    def test_shift_zero(self):
        for prime in PRIMES:
            for one in ((((0, 1),), 0), (((-FAR, prime - 1), (FAR, 1)), 0), (polynomial(1, prime), 0)):
                found = order(prime, one)
                self.assertEqual(found, prime)
                self.assertEqual(power(prime, one, found), IDENTITY)
                self.assertNotIn(IDENTITY, [power(prime, one, count) for count in range(1, found)])

    def test_other_shifts(self):
        for prime in PRIMES:
            for shift in (1, -1, prime, FAR, -FAR):
                self.assertIsNone(order(prime, ((), shift)))
                self.assertIsNone(order(prime, (((0, 1),), shift)))


if __name__ == "__main__":
    unittest.main()
