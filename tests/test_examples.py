"""Every example of the interface."""

import unittest

from dialroad.effects import apply, compose, inverse, is_effect, order, power
from dialroad.errors import DivisionByZero
from dialroad.polynomials import add, divide, geometric, greatest_divisor, is_polynomial
from dialroad.polynomials import move, multiply, normalize, scale, subtract


class PolynomialExamplesTest(unittest.TestCase):
    def test_normalize(self):
        self.assertEqual(normalize(5, [(2, 7), (0, 3), (2, -2), (1, 5)]), ((0, 3),))

    def test_is_polynomial(self):
        self.assertIs(is_polynomial(3, ((0, 3),)), False)

    def test_add(self):
        self.assertEqual(add(3, ((0, 1), (1, 2)), ((1, 1), (2, 2))), ((0, 1), (2, 2)))

    def test_subtract(self):
        self.assertEqual(subtract(5, ((0, 1),), ((1, 2),)), ((0, 1), (1, 3)))

    def test_multiply(self):
        self.assertEqual(multiply(3, ((0, 1), (1, 1)), ((0, 1), (1, 2))), ((0, 1), (2, 2)))

    def test_scale(self):
        self.assertEqual(scale(5, ((0, 2), (3, 4)), 3), ((0, 1), (3, 2)))

    def test_move(self):
        self.assertEqual(move(((0, 1), (2, 2)), -3), ((-3, 1), (-1, 2)))

    def test_geometric(self):
        self.assertEqual(geometric(2, 3, 2), ((0, 1), (2, 1), (4, 1)))
        self.assertEqual(geometric(3, 4, 0), ((0, 1),))

    def test_divide(self):
        self.assertEqual(divide(3, ((0, 1), (2, 2)), ((0, 1), (1, 1))), ((0, 1), (1, 2)))
        with self.assertRaises(DivisionByZero):
            divide(3, ((0, 1),), ())

    def test_greatest_divisor(self):
        self.assertEqual(greatest_divisor(3, ((0, 1), (2, 2)), ((1, 1), (2, 1))), ((0, 1), (1, 1)))
        self.assertEqual(greatest_divisor(3, (), ((1, 2), (2, 1))), ((0, 2), (1, 1)))


class EffectExamplesTest(unittest.TestCase):
    def test_is_effect(self):
        self.assertIs(is_effect(3, (((0, 1),), 2)), True)

    def test_compose(self):
        self.assertEqual(compose(3, (((0, 1),), 2), (((0, 2),), -1)), (((0, 1), (2, 2)), 1))

    def test_inverse(self):
        self.assertEqual(inverse(3, (((0, 1),), 2)), (((-2, 2),), -2))

    def test_power(self):
        self.assertEqual(power(2, (((0, 1),), 1), 3), (((0, 1), (1, 1), (2, 1)), 3))

    def test_order(self):
        self.assertEqual(order(5, (((3, 1),), 0)), 5)

    def test_apply(self):
        self.assertEqual(apply(3, (((0, 1), (2, 2)), 1), {4: 1, 5: 2}, 2), ({2: 1, 5: 2}, 3))


if __name__ == "__main__":
    unittest.main()
