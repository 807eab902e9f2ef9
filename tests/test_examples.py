"""Every example of the interface."""

import unittest

from dialroad.conjugacy import conjugacy_name, conjugator
from dialroad.effects import apply, compose, inverse, is_effect, order, power
from dialroad.errors import DivisionByZero, InvalidLine, InvalidText, ShiftIsZero, TooLong, UnknownName
from dialroad.far import extent, first_difference, value_at
from dialroad.lengths import certifies_length, count_effects, dead_end_depth, length, length_certificate
from dialroad.lengths import shortest_program
from dialroad.notation import format_program, parse_program
from dialroad.polynomials import add, divide, geometric, greatest_divisor, is_polynomial
from dialroad.polynomials import move, multiply, normalize, scale, subtract
from dialroad.programs import effect_of, executed, is_program, shift_of
from dialroad.road import Road
from dialroad.roots import commute, nth_root, root
from dialroad.rules import Rules
from dialroad.sets import Effects
from dialroad.storage import load, save
from dialroad.walkers import least_steps, plan, plan_steps, unused


class PolynomialExamplesTest(unittest.TestCase):
    def test_normalize(self):
        self.assertEqual(normalize(5, [(2, 7), (0, 3), (2, -2), (1, 5)]), ((0, 3),))

    def test_is_polynomial(self):
        self.assertIs(is_polynomial(3, ((0, 3),)), False)

    def test_add(self):
        self.assertEqual(add(3, ((0, 1), (1, 2)), ((1, 1), (2, 2))), ((0, 1), (2, 2)))

    def test_subtract(self):
        self.assertEqual(subtract(5, ((0, 1),), ((1, 2),)), ((0, 1), (1, 3)))

    def test_multiply(self):
        self.assertEqual(multiply(3, ((0, 1), (1, 1)), ((0, 1), (1, 2))), ((0, 1), (2, 2)))

    def test_scale(self):
        self.assertEqual(scale(5, ((0, 2), (3, 4)), 3), ((0, 1), (3, 2)))

    def test_move(self):
        self.assertEqual(move(((0, 1), (2, 2)), -3), ((-3, 1), (-1, 2)))

    def test_geometric(self):
        self.assertEqual(geometric(2, 3, 2), ((0, 1), (2, 1), (4, 1)))
        self.assertEqual(geometric(3, 4, 0), ((0, 1),))

    def test_divide(self):
        self.assertEqual(divide(3, ((0, 1), (2, 2)), ((0, 1), (1, 1))), ((0, 1), (1, 2)))
        with self.assertRaises(DivisionByZero):
            divide(3, ((0, 1),), ())

    def test_greatest_divisor(self):
        self.assertEqual(greatest_divisor(3, ((0, 1), (2, 2)), ((1, 1), (2, 1))), ((0, 1), (1, 1)))
        self.assertEqual(greatest_divisor(3, (), ((1, 2), (2, 1))), ((0, 2), (1, 1)))


class EffectExamplesTest(unittest.TestCase):
    def test_is_effect(self):
        self.assertIs(is_effect(3, (((0, 1),), 2)), True)

    def test_compose(self):
        self.assertEqual(compose(3, (((0, 1),), 2), (((0, 2),), -1)), (((0, 1), (2, 2)), 1))

    def test_inverse(self):
        self.assertEqual(inverse(3, (((0, 1),), 2)), (((-2, 2),), -2))

    def test_power(self):
        self.assertEqual(power(2, (((0, 1),), 1), 3), (((0, 1), (1, 1), (2, 1)), 3))

    def test_order(self):
        self.assertEqual(order(5, (((3, 1),), 0)), 5)

    def test_apply(self):
        self.assertEqual(apply(3, (((0, 1), (2, 2)), 1), {4: 1, 5: 2}, 2), ({2: 1, 5: 2}, 3))


class ProgramExamplesTest(unittest.TestCase):
    PROGRAM = [("turn", 1), ("repeat", 3, [("step", 2), ("turn", 1)])]

    def test_is_program(self):
        self.assertIs(is_program([("turn", 1), ("jump", 2)]), False)

    def test_shift_of(self):
        self.assertEqual(shift_of(self.PROGRAM), 6)

    def test_executed(self):
        self.assertEqual(executed(self.PROGRAM), 7)

    def test_effect_of(self):
        self.assertEqual(effect_of(5, self.PROGRAM), (((0, 1), (2, 1), (4, 1), (6, 1)), 6))
        with self.assertRaises(TooLong) as caught:
            effect_of(5, [("repeat", 10001, [("step", 1)])])
        self.assertEqual(caught.exception.limit, 10000)


class FarExamplesTest(unittest.TestCase):
    def test_value_at(self):
        self.assertEqual(value_at(7, [("repeat", 10 ** 30, [("turn", 2), ("step", 3)])], 3 * 10 ** 29), 2)

    def test_first_difference(self):
        one = [("repeat", 4, [("turn", 1), ("step", 1)])]
        other = [("repeat", 2, [("turn", 1), ("step", 2)])]
        self.assertEqual(first_difference(2, one, other), ("dial", 1, 1, 0))
        self.assertEqual(first_difference(2, [("step", 1)], [("step", 2)]), ("shift", 1, 2))

    def test_extent(self):
        self.assertEqual(extent(3, [("repeat", 5, [("step", -2), ("turn", 1)])]), (-10, -2))


class NotationExamplesTest(unittest.TestCase):
    def test_format_program(self):
        self.assertEqual(format_program([("turn", 1), ("repeat", 3, [("step", 2)])]), "turn 1 repeat 3 [ step 2 ]")

    def test_parse_program(self):
        self.assertEqual(parse_program("step -4 repeat 0 [ ]"), [("step", -4), ("repeat", 0, [])])
        with self.assertRaises(InvalidText) as caught:
            parse_program("step 1 turn 01")
        self.assertEqual(caught.exception.position, 3)

    def test_the_text_of_point_17(self):
        program = [("turn", 1), ("repeat", 3, [("step", 2), ("turn", 1)])]
        self.assertEqual(parse_program("turn 1 repeat 3 [ step 2 turn 1 ]"), program)


class LengthExamplesTest(unittest.TestCase):
    EFFECT = (((-1, 2), (2, 4)), 1)

    def test_length(self):
        self.assertEqual(length(5, self.EFFECT), 8)

    def test_shortest_program(self):
        self.assertEqual(shortest_program(5, ((), -2)), [("step", -1), ("step", -1)])

    def test_length_certificate(self):
        self.assertIs(certifies_length(5, self.EFFECT, 8, length_certificate(5, self.EFFECT)), True)

    def test_certifies_length(self):
        certificate = ([(-1, 2), (2, 1)], [(-1, 0, 2), (0, 1, 1), (1, 2, 2)])
        self.assertIs(certifies_length(5, self.EFFECT, 8, certificate), True)

    def test_dead_end_depth(self):
        self.assertEqual(dead_end_depth(2, (((-1, 1), (0, 1), (1, 1)), 0)), 3)

    def test_count_effects(self):
        self.assertEqual(count_effects(2, 1), 3)


class ConjugacyExamplesTest(unittest.TestCase):
    def test_conjugator(self):
        self.assertIsNone(conjugator(2, (((0, 1),), 2), (((1, 1),), 4)))
        one, other = (((0, 1),), 0), (((4, 1),), 0)
        x = conjugator(3, one, other)
        self.assertEqual(compose(3, compose(3, inverse(3, x), one), x), other)

    def test_conjugacy_name(self):
        self.assertEqual(conjugacy_name(3, (((0, 1), (4, 2)), 3)), (((0, 1), (1, 2)), 3))


class RootExamplesTest(unittest.TestCase):
    def test_commute(self):
        self.assertIs(commute(2, (((0, 1),), 1), (((0, 1), (1, 1)), 2)), True)

    def test_root(self):
        self.assertEqual(root(2, (((0, 1), (1, 1)), 2)), ((((0, 1),), 1), 2))
        with self.assertRaises(ShiftIsZero):
            root(2, (((0, 1),), 0))

    def test_nth_root(self):
        self.assertEqual(nth_root(3, (((0, 2),), 0), 2), (((0, 1),), 0))


class SetExamplesTest(unittest.TestCase):
    def setUp(self):
        self.some = Effects(2, [(((0, 1), (1, 1)), 0), ((), 2)])

    def test_basis(self):
        self.assertEqual(self.some.basis(), [((0, 1), (1, 1))])

    def test_stride_and_translation(self):
        self.assertEqual((self.some.stride(), self.some.translation()), (2, ((), 2)))

    def test_contains(self):
        self.assertIs(self.some.contains((((2, 1), (3, 1)), 4)), True)

    def test_checks(self):
        recipe = ("recipe", [0, 1], 2, [((2, 1),), ()])
        self.assertIs(self.some.checks((((2, 1), (3, 1)), 4), recipe), True)

    def test_certificate(self):
        self.assertIs(self.some.checks((((0, 1),), 0), self.some.certificate((((0, 1),), 0))), True)

    def test_cosets(self):
        self.assertEqual(Effects(2, [(((0, 1), (1, 1)), 0), ((), 1)]).cosets(), 2)

    def test_is_within(self):
        self.assertIs(Effects(2, [((), 4)]).is_within(Effects(2, [((), 2)])), True)


class RuleExamplesTest(unittest.TestCase):
    def test_same(self):
        self.assertIs(Rules(2, [((), 2)]).same((((0, 1),), 1), (((2, 1),), 3)), True)

    def test_classes(self):
        self.assertEqual(Rules(2, [((), 2)]).classes(), 8)

    def test_checks(self):
        self.assertIs(Rules(2, [((), 2)]).checks((((0, 1), (2, 1)), 4), ([2], [((0, 1),)], [()])), True)


class WalkerExamplesTest(unittest.TestCase):
    TASKS, MARKED = [(0, 3), (10, 10)], [5, 12, 6]

    def test_least_steps(self):
        self.assertEqual(least_steps(self.TASKS, self.MARKED), 13)

    def test_plan(self):
        self.assertEqual(plan_steps(self.TASKS, self.MARKED, plan(self.TASKS, self.MARKED)), 13)

    def test_plan_steps(self):
        self.assertEqual(plan_steps([(0, 1)], [2], [[0, 2, 1]]), 3)

    def test_unused(self):
        self.assertEqual(unused(self.TASKS, self.MARKED), [(6, 10)])


class RoadExamplesTest(unittest.TestCase):
    def test_dial_and_places(self):
        road = Road(5)
        road.enter("ann", 2)
        road.run("ann", [("turn", 3), ("step", 1)])
        self.assertEqual((road.dial(2), road.dial(2, 1), road.places()), (3, 0, {"ann": 3}))

    def test_an_unknown_name(self):
        with self.assertRaises(UnknownName) as caught:
            Road(5).run("ann", None)
        self.assertEqual(caught.exception.value, "ann")

    def test_undo_and_redo(self):
        road = Road(5)
        road.enter("ann", 2)
        road.run("ann", [("turn", 3)])
        action = ("run", "ann", [("turn", 3)])
        self.assertEqual((road.undo(), road.redo(), road.undo(), road.dial(2)), (action, action, action, 0))

    def test_same_dials(self):
        road = Road(2)
        road.enter("bob", 0)
        road.run("bob", [("turn", 1)])
        road.run("bob", [("turn", 1)])
        self.assertIs(road.same_dials(1, 3), True)


class StorageExamplesTest(unittest.TestCase):
    def test_save(self):
        road = Road(5)
        road.enter("ann", 2)
        road.run("ann", [("turn", 3), ("step", 1)])
        self.assertEqual(save(road), "prime 5\nenter ann 2\nrun ann turn 3 step 1")

    def test_load(self):
        with self.assertRaises(InvalidLine) as caught:
            load("prime 4")
        self.assertEqual(caught.exception.position, 0)
        self.assertEqual(load("prime 5\nenter ann 2").places(), {"ann": 2})


if __name__ == "__main__":
    unittest.main()
