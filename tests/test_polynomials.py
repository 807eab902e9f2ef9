"""Points 6 to 10: polynomials and their arithmetic."""

import unittest

from dialroad.errors import DivisionByZero
from dialroad.polynomials import add, divide, geometric, greatest_divisor, is_polynomial
from dialroad.polynomials import move, multiply, normalize, scale, subtract
from tests.samples import FAR, OTHER_VALUES, PRIMES, all_polynomials, polynomial, values_at


def plain_product(prime, one, other):
    """The product as the sum over each exponent, without any code of the program."""
    first, second = values_at(one), values_at(other)
    found = {}
    for place in sorted({e + f for e in first for f in second}):
        value = sum(first[e] * second.get(place - e, 0) for e in first) % prime
        if value:
            found[place] = value
    return found


class NormalizeTest(unittest.TestCase):
    def test_zero(self):
        for pairs in ([], (), [(3, 0)], ((3, 0), (4, 0)), [(1, 2), (1, -2)], [(1, 1), (1, 2), (2, 0), (1, 2)]):
            self.assertEqual(normalize(5, pairs), ())

    def test_lists_and_tuples_in_any_order(self):
        expected = ((-4, 1), (0, 2), (7, 3))
        self.assertEqual(normalize(5, [(7, 3), (-4, 1), (0, 2)]), expected)
        self.assertEqual(normalize(5, ((0, 2), (7, 3), (-4, 1))), expected)

    def test_duplicate_exponents_are_summed(self):
        self.assertEqual(normalize(7, [(1, 3), (0, 1), (1, 3), (0, 1), (1, 3)]), ((0, 2), (1, 2)))

    def test_duplicates_that_cancel_leave_no_term(self):
        self.assertEqual(normalize(97, [(5, 96), (2, 1), (5, 1)]), ((2, 1),))

    def test_coefficients_of_any_size_and_sign(self):
        self.assertEqual(normalize(2, [(0, -1), (1, 2), (2, -2), (3, 3), (4, -FAR), (5, FAR + 1)]),
                         ((0, 1), (3, 1), (5, 1)))
        self.assertEqual(normalize(97, [(0, -1), (1, 97), (2, -97), (3, 98), (4, 96), (5, 97 * FAR + 5)]),
                         ((0, 96), (3, 1), (4, 96), (5, 5)))

    def test_exponents_of_any_size_and_sign(self):
        self.assertEqual(normalize(3, [(FAR, 1), (-FAR, 2), (0, 4), (FAR - 1, 5), (FAR, 1)]),
                         ((-FAR, 2), (0, 1), (FAR - 1, 2), (FAR, 2)))

    def test_every_result_is_a_polynomial_and_is_its_own_normal_form(self):
        for prime in PRIMES:
            pairs = [((k * k) % 37 - 18, k * 7 - 300) for k in range(400)]
            result = normalize(prime, pairs)
            self.assertTrue(is_polynomial(prime, result))
            self.assertEqual(normalize(prime, result), result)
            self.assertEqual(normalize(prime, pairs[::-1]), result)
            for place in range(-20, 21):
                total = sum(worth for at, worth in pairs if at == place) % prime
                self.assertEqual(dict(result).get(place, 0), total)


class IsPolynomialTest(unittest.TestCase):
    def test_polynomials(self):
        for prime, value in (
            (2, ()), (97, ()), (2, ((0, 1),)), (3, ((0, 2),)), (97, ((0, 96), (1, 1))),
            (5, ((-3, 4), (-2, 1), (0, 2), (9, 3))), (2, ((-FAR, 1), (FAR, 1))), (2, ((-10 ** 99, 1), (10 ** 99, 1))),
            (3, tuple((k, 1 + k % 2) for k in range(-200, 200))), (3, tuple((k, 1) for k in range(1000))),
        ):
            self.assertIs(is_polynomial(prime, value), True, value)

    def test_other_values(self):
        for value in OTHER_VALUES:
            self.assertIs(is_polynomial(3, value), False, value)

    def test_coefficients_out_of_range(self):
        for prime in PRIMES:
            for wrong in (0, prime, prime + 1, -1, 1 - prime, FAR, -FAR):
                self.assertIs(is_polynomial(prime, ((0, wrong),)), False, (prime, wrong))
                self.assertIs(is_polynomial(prime, ((0, 1), (1, wrong))), False, (prime, wrong))
                self.assertIs(is_polynomial(prime, ((0, wrong), (1, 1))), False, (prime, wrong))

    def test_exponents_out_of_order(self):
        for exponents in ((1, 0), (0, 0), (0, 2, 1), (2, 0, 1), (0, 1, 1), (-1, -2), (FAR, FAR - 1), (0, 1, 0)):
            value = tuple((exponent, 1) for exponent in exponents)
            self.assertIs(is_polynomial(5, value), False, value)

    def test_one_part_changed(self):
        for value in (
            [(0, 1), (1, 2)], ([0, 1], (1, 2)), ((0, 1), [1, 2]), ((0, 1), (1, 2), ()), ((0, 1), (1,)),
            ((0, 1), (1, 2, 0)), ((0, 1), 1), ((0, 1), None), ((0, 1), "12"), (0, 1), ("01",), ({0: 1},),
            ((0, True), (1, 2)), ((False, 1), (1, 2)), ((0, 1), (True, 2)), ((0, 1), (1, True)),
            ((None, 1),), ((0, None),), (("0", 1),), ((0, "1"),), (((0,), 1),), ((0, (1,)),), ((0, [1]),), (({}, 1),),
            (((0, 1), (1, 2)),), (((0, 1), (1, 2)), 0), ((0, 1), ("1", 2), (2, 1)), (([], 1), ([], 1)), ((),),
        ):
            self.assertIs(is_polynomial(3, value), False, value)


class SumsTest(unittest.TestCase):
    def test_zero(self):
        for prime in PRIMES:
            some = polynomial(prime, prime)
            self.assertEqual(add(prime, some, ()), some)
            self.assertEqual(add(prime, (), some), some)
            self.assertEqual(subtract(prime, some, ()), some)
            self.assertEqual(subtract(prime, some, some), ())
            self.assertEqual(add(prime, (), ()), ())
            self.assertEqual(subtract(prime, (), ()), ())
            self.assertEqual(add(prime, some, subtract(prime, (), some)), ())

    def test_sum_and_difference_at_each_exponent(self):
        for prime in PRIMES:
            for seed in range(30):
                one, other = polynomial(seed, prime), polynomial(seed + 1000, prime)
                total, less = add(prime, one, other), subtract(prime, one, other)
                self.assertTrue(is_polynomial(prime, total))
                self.assertTrue(is_polynomial(prime, less))
                for place in range(-10, 11):
                    here, there = dict(one).get(place, 0), dict(other).get(place, 0)
                    self.assertEqual(dict(total).get(place, 0), (here + there) % prime)
                    self.assertEqual(dict(less).get(place, 0), (here - there) % prime)

    def test_far_exponents(self):
        self.assertEqual(add(2, ((-FAR, 1), (FAR, 1)), ((-FAR, 1), (0, 1))), ((0, 1), (FAR, 1)))
        self.assertEqual(subtract(97, ((FAR, 1),), ((-FAR, 1), (FAR, 2))), ((-FAR, 96), (FAR, 96)))


class MultiplyTest(unittest.TestCase):
    def test_zero_and_one(self):
        for prime in PRIMES:
            some = polynomial(prime, prime)
            self.assertEqual(multiply(prime, some, ()), ())
            self.assertEqual(multiply(prime, (), some), ())
            self.assertEqual(multiply(prime, (), ()), ())
            self.assertEqual(multiply(prime, some, ((0, 1),)), some)
            self.assertEqual(multiply(prime, ((-3, 1),), some), move(some, -3))

    def test_terms_that_cancel(self):
        self.assertEqual(multiply(2, ((0, 1), (1, 1)), ((0, 1), (1, 1))), ((0, 1), (2, 1)))
        self.assertEqual(multiply(97, ((0, 1), (1, 1)), ((0, 96), (1, 1))), ((0, 96), (2, 1)))

    def test_product_at_each_exponent(self):
        for prime in PRIMES:
            for seed in range(20):
                one, other = polynomial(seed, prime), polynomial(seed + 1000, prime, terms=8)
                result = multiply(prime, one, other)
                self.assertEqual(values_at(result), plain_product(prime, one, other))

    def test_far_exponents(self):
        self.assertEqual(multiply(3, ((-FAR, 2), (FAR, 1)), ((-FAR, 1), (FAR, 2))), ((-2 * FAR, 2), (0, 2), (2 * FAR, 2)))

    def test_400_terms(self):
        one = tuple((k * FAR // 400, 1 + k % 4) for k in range(400))
        other = tuple((k * k - FAR, 1 + k % 3) for k in range(400))
        result = multiply(5, one, other)
        self.assertEqual(values_at(result), plain_product_of_sparse(5, one, other))

    def test_a_result_may_be_passed_back(self):
        one = polynomial(1, 5, terms=40, low=-FAR, high=FAR)
        square = multiply(5, one, one)
        self.assertGreater(len(square), 400)
        self.assertEqual(multiply(5, square, one), multiply(5, one, square))
        self.assertEqual(subtract(5, add(5, square, one), one), square)


def plain_product_of_sparse(prime, one, other):
    found = {}
    for e, c in one:
        for f, d in other:
            found[e + f] = (found.get(e + f, 0) + c * d) % prime
    return {place: value for place, value in found.items() if value}


class ScaleAndMoveTest(unittest.TestCase):
    def test_scale(self):
        some = ((-2, 1), (0, 3), (FAR, 4))
        self.assertEqual(scale(5, some, 1), some)
        self.assertEqual(scale(5, some, 2), ((-2, 2), (0, 1), (FAR, 3)))
        self.assertEqual(scale(5, some, -1), ((-2, 4), (0, 2), (FAR, 1)))
        self.assertEqual(scale(5, some, 5 * FAR + 1), some)
        self.assertEqual(scale(97, ((0, 96),), 96), ((0, 1),))

    def test_scale_to_zero(self):
        for prime in PRIMES:
            some = polynomial(prime, prime)
            for factor in (0, prime, -prime, prime * FAR, -prime * 2):
                self.assertEqual(scale(prime, some, factor), ())
        self.assertEqual(scale(3, (), 2), ())

    def test_move(self):
        some = ((-2, 1), (0, 3), (FAR, 4))
        self.assertEqual(move(some, 0), some)
        self.assertEqual(move(some, 5), ((3, 1), (5, 3), (FAR + 5, 4)))
        self.assertEqual(move(some, -FAR), ((-FAR - 2, 1), (-FAR, 3), (0, 4)))
        self.assertEqual(move(some, FAR), ((FAR - 2, 1), (FAR, 3), (2 * FAR, 4)))
        self.assertEqual(move((), FAR), ())
        self.assertEqual(move(move(some, FAR), -FAR), some)


class GeometricTest(unittest.TestCase):
    def test_count_zero_and_one(self):
        for prime in PRIMES:
            for stride in (0, 1, -1, FAR, -FAR):
                self.assertEqual(geometric(prime, 0, stride), ())
                self.assertEqual(geometric(prime, 1, stride), ((0, 1),))

    def test_strides(self):
        self.assertEqual(geometric(2, 4, 3), ((0, 1), (3, 1), (6, 1), (9, 1)))
        self.assertEqual(geometric(97, 3, -2), ((-4, 1), (-2, 1), (0, 1)))
        self.assertEqual(geometric(3, 3, -FAR), ((-2 * FAR, 1), (-FAR, 1), (0, 1)))

    def test_stride_zero(self):
        self.assertEqual(geometric(2, 3, 0), ((0, 1),))
        self.assertEqual(geometric(2, 400, 0), ())
        self.assertEqual(geometric(97, 97, 0), ())
        self.assertEqual(geometric(97, 400, 0), ((0, 12),))

    def test_400_terms(self):
        for stride in (1, -1, 7, FAR, -FAR):
            expected = tuple(sorted((k * stride, 1) for k in range(400)))
            self.assertEqual(geometric(2, 400, stride), expected)


class DivideTest(unittest.TestCase):
    def test_division_by_zero(self):
        for prime in PRIMES:
            for one in ((), ((0, 1),), polynomial(1, prime)):
                with self.assertRaises(DivisionByZero):
                    divide(prime, one, ())

    def test_zero_divided(self):
        for prime in PRIMES:
            self.assertEqual(divide(prime, (), polynomial(1, prime)), ())

    def test_single_terms_divide_everything(self):
        self.assertEqual(divide(5, ((0, 1), (3, 2)), ((7, 3),)), ((-7, 2), (-4, 4)))
        self.assertEqual(divide(2, ((0, 1),), ((FAR, 1),)), ((-FAR, 1),))
        self.assertEqual(divide(97, ((-FAR, 1),), ((FAR, 96),)), ((-2 * FAR, 96),))

    def test_no_quotient(self):
        for prime in PRIMES:
            self.assertIsNone(divide(prime, ((0, 1),), ((0, 1), (1, 1))))
            self.assertIsNone(divide(prime, ((0, 1), (1, 1)), ((0, 1), (2, 1))))
            self.assertIsNone(divide(prime, ((0, 1), (4, 1)), ((0, 1), (1, 1), (2, 1))))
            self.assertIsNone(divide(prime, ((0, 1), (400, 1)), ((0, 1), (399, 1))))
        self.assertIsNone(divide(3, ((0, 1), (2, 1)), ((0, 1), (1, 1))))
        self.assertEqual(divide(2, ((0, 1), (2, 1)), ((0, 1), (1, 1))), ((0, 1), (1, 1)))

    def test_against_all_products_of_small_polynomials(self):
        for prime, wide in ((2, 4), (3, 2)):
            dividends = all_polynomials(prime, 0, wide)
            for other in dividends:
                if not other:
                    continue
                products = {}
                for quotient in all_polynomials(prime, -wide, wide):
                    products[tuple(plain_product(prime, quotient, other).items())] = quotient
                for one in dividends:
                    self.assertEqual(divide(prime, one, other), products.get(one), (prime, one, other))

    def test_factors_of_products_far_out(self):
        for prime in PRIMES:
            for seed in range(12):
                one = polynomial(seed, prime, terms=30, low=FAR - 100, high=FAR)
                other = polynomial(seed + 1000, prime, terms=30, low=-FAR, high=100 - FAR)
                both = multiply(prime, one, other)
                self.assertEqual(divide(prime, both, other), one)
                self.assertEqual(divide(prime, both, one), other)
                # Only single terms divide a single term, so one term more or less leaves no quotient.
                self.assertIsNone(divide(prime, add(prime, both, ((0, 1),)), other))
                self.assertIsNone(divide(prime, both[:-1], other))

    def test_exponents_that_differ_by_400(self):
        for prime in (2, 97):
            one = tuple((k, 1 + k % (prime - 1) if prime > 2 else 1) for k in range(-200, 201))
            other = ((5, 1), (6, prime - 1))
            both = multiply(prime, one, other)
            self.assertEqual(divide(prime, both, other), one)
            self.assertEqual(divide(prime, both, one), other)
        self.assertEqual(divide(2, ((0, 1), (400, 1)), ((0, 1), (1, 1))), geometric(2, 400, 1))

    def test_results_that_are_passed_back(self):
        one, other = geometric(7, 400, FAR), geometric(7, 20, FAR)
        self.assertEqual(divide(7, one, other), geometric(7, 20, 20 * FAR))
        self.assertEqual(divide(7, one, one), ((0, 1),))


class GreatestDivisorTest(unittest.TestCase):
    def test_zero(self):
        for prime in PRIMES:
            self.assertEqual(greatest_divisor(prime, (), ()), ())
        self.assertEqual(greatest_divisor(5, ((-3, 2), (4, 3)), ()), ((0, 4), (7, 1)))
        self.assertEqual(greatest_divisor(5, (), ((-3, 2), (4, 3))), ((0, 4), (7, 1)))
        self.assertEqual(greatest_divisor(2, (), ((FAR, 1),)), ((0, 1),))

    def test_single_terms(self):
        self.assertEqual(greatest_divisor(97, ((FAR, 50),), ((-FAR, 30), (4 - FAR, 2))), ((0, 1),))
        self.assertEqual(greatest_divisor(2, ((3, 1),), ((5, 1),)), ((0, 1),))

    def test_against_all_small_polynomials(self):
        for prime, wide in ((2, 4), (3, 2)):
            some = all_polynomials(prime, 0, wide)
            divisors = [one for one in some if one and one[0][0] == 0]
            multiples = {}
            for other in divisors:
                products = [plain_product(prime, one, other) for one in all_polynomials(prime, -wide, wide)]
                multiples[other] = {tuple(row.items()) for row in products}
            for one in some:
                for other in some:
                    if one or other:
                        self.check(prime, one, other, divisors, multiples)

    def check(self, prime, one, other, divisors, multiples):
        found = greatest_divisor(prime, one, other)
        self.assertEqual(found[0][0], 0)
        self.assertEqual(found[-1][1], 1)
        self.assertIn(one, multiples[found])
        self.assertIn(other, multiples[found])
        for divisor in divisors:
            if one in multiples[divisor] and other in multiples[divisor]:
                self.assertIn(found, multiples[divisor])

    def test_common_factors_far_out(self):
        for prime in PRIMES:
            for seed in range(6):
                common = polynomial(seed, prime, terms=20, low=FAR - 60, high=FAR)
                one = multiply(prime, common, polynomial(seed + 1000, prime, terms=20, low=-FAR, high=60 - FAR))
                other = multiply(prime, common, polynomial(seed + 2000, prime, terms=20, low=-60, high=60))
                found = greatest_divisor(prime, one, other)
                self.assertTrue(is_polynomial(prime, found))
                self.assertEqual((found[0][0], found[-1][1]), (0, 1))
                self.assertIsNotNone(divide(prime, found, common))
                self.assertIsNotNone(divide(prime, one, found))
                self.assertIsNotNone(divide(prime, other, found))
                rest = greatest_divisor(prime, divide(prime, one, found), divide(prime, other, found))
                self.assertEqual(rest, ((0, 1),))
                self.assertEqual(greatest_divisor(prime, other, one), found)

    def test_exponents_that_differ_by_400(self):
        self.assertEqual(greatest_divisor(2, ((0, 1), (400, 1)), ((0, 1), (360, 1))), ((0, 1), (40, 1)))
        self.assertEqual(greatest_divisor(97, ((0, 96), (400, 1)), ((-7, 96), (350, 1))), ((0, 96), (1, 1)))
        dense = tuple((k, 1) for k in range(401))
        self.assertEqual(greatest_divisor(3, dense, dense[:-1]), ((0, 1),))
        self.assertEqual(greatest_divisor(3, dense, move(scale(3, dense, 2), -FAR)), dense)

    def test_results_that_are_passed_back(self):
        found = greatest_divisor(7, geometric(7, 400, FAR), geometric(7, 300, -FAR))
        self.assertEqual(found, geometric(7, 100, FAR))


if __name__ == "__main__":
    unittest.main()
