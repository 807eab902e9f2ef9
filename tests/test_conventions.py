"""Points 2 to 4 and the interface: names of arguments, where things are defined, and that nothing is modified."""

import copy
import importlib
import inspect
import unittest

from tests.samples import FAR, PRIMES, effect, polynomial

# Each function of the interface with its file, its parameters, and arguments for a call.
FUNCTIONS = (
    ("polynomials", "normalize", ("prime", "pairs"), (5, [(2, 7), (0, 3), (2, -2), (1, 5)])),
    ("polynomials", "is_polynomial", ("prime", "value"), (3, ((0, 1), [1, {2: [3]}]))),
    ("polynomials", "add", ("prime", "one", "other"), (3, ((0, 1), (1, 2)), ((1, 1), (2, 2)))),
    ("polynomials", "subtract", ("prime", "one", "other"), (5, ((0, 1),), ((1, 2),))),
    ("polynomials", "multiply", ("prime", "one", "other"), (3, ((0, 1), (1, 1)), ((0, 1), (3, 2)))),
    ("polynomials", "scale", ("prime", "polynomial", "factor"), (5, ((0, 2), (3, 4)), 3)),
    ("polynomials", "move", ("polynomial", "places"), (((0, 1), (2, 2)), -3)),
    ("polynomials", "geometric", ("prime", "count", "stride"), (2, 3, 5)),
    ("polynomials", "divide", ("prime", "one", "other"), (3, ((0, 1), (2, 2)), ((0, 1), (1, 1)))),
    ("polynomials", "greatest_divisor", ("prime", "one", "other"), (3, ((0, 1), (2, 2)), ((1, 1), (2, 1)))),
    ("effects", "is_effect", ("prime", "value"), (3, [((0, 1),), {"a": [2]}])),
    ("effects", "compose", ("prime", "one", "other"), (3, (((0, 1),), 2), (((0, 2),), -1))),
    ("effects", "inverse", ("prime", "effect"), (3, (((0, 1),), 2))),
    ("effects", "power", ("prime", "effect", "count"), (2, (((0, 1),), 1), 3)),
    ("effects", "order", ("prime", "effect"), (5, (((3, 1),), 0))),
    ("effects", "apply", ("prime", "effect", "dials", "place"), (3, (((0, 1), (2, 2)), 1), {5: 2, 4: 1}, 2)),
)


def function_called(module, name):
    return getattr(importlib.import_module("dialroad." + module), name)


def shown(value):
    """A text that tells apart what == does not: lists and tuples, True and 1, and the order of a dict."""
    return repr(value)


class InterfaceTest(unittest.TestCase):
    def test_functions_are_defined_in_their_files_with_these_parameters(self):
        for module, name, parameters, _ in FUNCTIONS:
            with self.subTest(name):
                function = function_called(module, name)
                self.assertTrue(inspect.isfunction(function))
                self.assertEqual(function.__module__, "dialroad." + module)
                self.assertEqual(tuple(inspect.signature(function).parameters), parameters)

    def test_arguments_by_name(self):
        for module, name, parameters, arguments in FUNCTIONS:
            with self.subTest(name):
                function = function_called(module, name)
                by_position = function(*arguments)
                self.assertEqual(shown(function(**dict(zip(parameters, arguments)))), shown(by_position))
                backwards = dict(list(zip(parameters, arguments))[::-1])
                self.assertEqual(shown(function(**backwards)), shown(by_position))
                mixed = function(arguments[0], **dict(zip(parameters[1:], arguments[1:])))
                self.assertEqual(shown(mixed), shown(by_position))


class NothingIsModifiedTest(unittest.TestCase):
    def test_arguments_stay_as_they_were(self):
        for module, name, _, arguments in FUNCTIONS:
            with self.subTest(name):
                given = copy.deepcopy(arguments)
                function_called(module, name)(*given)
                self.assertEqual(shown(given), shown(arguments))

    def test_equal_calls_return_equal_results(self):
        for module, name, _, arguments in FUNCTIONS:
            with self.subTest(name):
                function = function_called(module, name)
                first = shown(function(*arguments))
                for prime in PRIMES:
                    function_called("effects", "power")(prime, effect(1, prime), 3)
                self.assertEqual(shown(function(*copy.deepcopy(arguments))), first)

    def test_the_pairs_that_are_normalized_stay_as_they_were(self):
        normalize = function_called("polynomials", "normalize")
        pairs = [(3, 1), (1, 9), (3, 1)]
        result = normalize(5, pairs)
        self.assertEqual(pairs, [(3, 1), (1, 9), (3, 1)])
        pairs.append((7, 1))
        pairs[0] = (9, 9)
        self.assertEqual(result, ((1, 4), (3, 2)))


class KindsOfValuesTest(unittest.TestCase):
    def test_results_are_polynomials_and_effects_of_tuples(self):
        is_polynomial = function_called("polynomials", "is_polynomial")
        is_effect = function_called("effects", "is_effect")
        for module, name, _, arguments in FUNCTIONS:
            with self.subTest(name):
                result = function_called(module, name)(*arguments)
                if name in ("is_polynomial", "is_effect"):
                    self.assertIs(result, False)
                elif module == "polynomials":
                    self.assertTrue(is_polynomial(arguments[0] if name != "move" else 3, result))
                elif name not in ("order", "apply"):
                    self.assertTrue(is_effect(arguments[0], result))

    def test_apply_returns_a_tuple_of_a_dict_and_an_integer(self):
        result = function_called("effects", "apply")(5, (((0, 1),), 2), {3: 1}, FAR)
        self.assertEqual([type(result)] + [type(part) for part in result], [tuple, dict, int])

    def test_values_that_were_returned_may_be_passed_back(self):
        compose = function_called("effects", "compose")
        move = function_called("polynomials", "move")
        far = move(move(polynomial(3, 97, low=-FAR, high=FAR), FAR), FAR)
        one = compose(97, (far, 2 * FAR), (far, 2 * FAR))
        back = function_called("effects", "inverse")(97, one)
        self.assertEqual(compose(97, one, back), ((), 0))
        dials, place = function_called("effects", "apply")(97, one, {}, FAR)
        self.assertEqual(function_called("effects", "apply")(97, back, dials, place), ({}, FAR))


if __name__ == "__main__":
    unittest.main()
