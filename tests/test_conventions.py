"""Points 2 to 4 and the interface: names of arguments, where things are defined, and that nothing is modified."""

import copy
import importlib
import inspect
import unittest

from tests.samples import FAR, PRIMES, effect, polynomial

PROGRAM = [("turn", 1), ("repeat", 3, [("step", 2), ("repeat", 2, [("turn", 1)]), ("repeat", 0, [])]), ("step", -1)]
EFFECT = (((-1, 2), (2, 4)), 1)
CERTIFICATE = ([(-1, 2), (2, 1)], [(-1, 0, 2), (0, 1, 1), (1, 2, 2)])

# Each function of the interface with its file, its parameters, and arguments for a call.
FUNCTIONS = (
    ("polynomials", "normalize", ("prime", "pairs"), (5, [(2, 7), (0, 3), (2, -2), (1, 5)])),
    ("polynomials", "is_polynomial", ("prime", "value"), (3, ((0, 1), [1, {2: [3]}]))),
    ("polynomials", "add", ("prime", "one", "other"), (3, ((0, 1), (1, 2)), ((1, 1), (2, 2)))),
    ("polynomials", "subtract", ("prime", "one", "other"), (5, ((0, 1),), ((1, 2),))),
    ("polynomials", "multiply", ("prime", "one", "other"), (3, ((0, 1), (1, 1)), ((0, 1), (3, 2)))),
    ("polynomials", "scale", ("prime", "polynomial", "factor"), (5, ((0, 2), (3, 4)), 3)),
    ("polynomials", "move", ("polynomial", "places"), (((0, 1), (2, 2)), -3)),
    ("polynomials", "geometric", ("prime", "count", "stride"), (2, 3, 5)),
    ("polynomials", "divide", ("prime", "one", "other"), (3, ((0, 1), (2, 2)), ((0, 1), (1, 1)))),
    ("polynomials", "greatest_divisor", ("prime", "one", "other"), (3, ((0, 1), (2, 2)), ((1, 1), (2, 1)))),
    ("effects", "is_effect", ("prime", "value"), (3, [((0, 1),), {"a": [2]}])),
    ("effects", "compose", ("prime", "one", "other"), (3, (((0, 1),), 2), (((0, 2),), -1))),
    ("effects", "inverse", ("prime", "effect"), (3, (((0, 1),), 2))),
    ("effects", "power", ("prime", "effect", "count"), (2, (((0, 1),), 1), 3)),
    ("effects", "order", ("prime", "effect"), (5, (((3, 1),), 0))),
    ("effects", "apply", ("prime", "effect", "dials", "place"), (3, (((0, 1), (2, 2)), 1), {5: 2, 4: 1}, 2)),
    ("programs", "is_program", ("value",), ([("turn", 1), ("repeat", 3, [("step", 2), {"a": [1]}])],)),
    ("programs", "shift_of", ("program",), (PROGRAM,)),
    ("programs", "executed", ("program",), (PROGRAM,)),
    ("programs", "effect_of", ("prime", "program"), (5, PROGRAM)),
    ("far", "value_at", ("prime", "program", "place"), (5, PROGRAM, 2)),
    ("far", "first_difference", ("prime", "one", "other"), (5, PROGRAM, [("repeat", 2, [("turn", 1), ("step", 2)])])),
    ("far", "extent", ("prime", "program"), (5, PROGRAM)),
    ("notation", "format_program", ("program",), (PROGRAM,)),
    ("notation", "parse_program", ("text",), ("turn 1 repeat 3 [ step 2 turn 1 repeat 0 [ ] ]",)),
    ("lengths", "length", ("prime", "effect"), (5, EFFECT)),
    ("lengths", "shortest_program", ("prime", "effect"), (5, EFFECT)),
    ("lengths", "length_certificate", ("prime", "effect"), (5, EFFECT)),
    ("lengths", "certifies_length", ("prime", "effect", "bound", "value"), (5, EFFECT, 8, CERTIFICATE)),
    ("lengths", "dead_end_depth", ("prime", "effect"), (2, (((-1, 1), (0, 1), (1, 1)), 0))),
    ("lengths", "count_effects", ("prime", "size"), (2, 3)),
    ("conjugacy", "conjugator", ("prime", "one", "other"), (3, (((0, 1),), 2), (((-1, 1), (0, 2), (2, 1)), 2))),
    ("conjugacy", "conjugacy_name", ("prime", "effect"), (3, (((0, 1), (4, 2)), 3))),
    ("roots", "commute", ("prime", "one", "other"), (2, (((0, 1),), 1), (((0, 1), (1, 1)), 2))),
    ("roots", "root", ("prime", "effect"), (2, (((0, 1), (1, 1)), 2))),
    ("roots", "nth_root", ("prime", "effect", "count"), (3, (((0, 2),), 0), 2)),
    ("walkers", "least_steps", ("tasks", "marked"), ([(0, 3), (10, 10)], [5, 12, 6])),
    ("walkers", "plan", ("tasks", "marked"), ([(3, 0), (10, 10)], [5, 12, 6])),
    ("walkers", "plan_steps", ("tasks", "marked", "value"), ([(0, 1)], [2], [[0, 2, 1]])),
    ("walkers", "unused", ("tasks", "marked"), ([(10, 10), (0, 3)], [5, 12, 6])),
    ("storage", "load", ("text",), ("prime 5\nenter ann 2\nrun ann turn 3 step 1",)),
)

GENERATORS = [(((0, 1), (1, 1)), 0), ((), 2)]
MEMBER = (((2, 1), (3, 1)), 4)
STRANGER = (((0, 1),), 0)


def another_set():
    return function_called("sets", "Effects")(2, [((), 2), (((0, 1),), 0)])


def nothing(thing):
    """Some objects are ready as soon as they are created."""


def travelled(road):
    """A road on which there is something to show, to undo and to redo."""
    road.enter("bob", 2)
    road.enter("ann", -1)
    road.run("ann", PROGRAM)
    road.run("bob", (("repeat", 2, [("turn", 1), ("step", 1)]),))
    road.run("ann", [("turn", 1)])
    road.undo()


# Each class of the interface with its file, its parameters, arguments for an object, what makes the object ready, and
# its methods with their parameters and with arguments for calls. A function among the arguments is called for an
# object to pass.
CLASSES = (
    ("rules", "Rules", ("prime", "effects"), (2, [((), 2)]), nothing, (
        ("same", ("one", "other"), ((((0, 1),), 1), (((2, 1),), 3))),
        ("classes", (), ()),
        ("certificate", ("effect",), ((((0, 1), (2, 1)), 4),)),
        ("certificate", ("effect",), ((((0, 1),), 4),)),
        ("checks", ("effect", "value"), ((((0, 1), (2, 1)), 4), ([2], [((0, 1),)], [()]))),
    )),
    ("road", "Road", ("prime",), (5,), travelled, (
        ("enter", ("name", "place"), ("cid", 4)),
        ("run", ("name", "program"), ("ann", [("repeat", 2, [("turn", 1), ("step", 1)])])),
        ("dial", ("place", "moment"), (1, 3)),
        ("dial", ("place", "moment"), (1,)),
        ("places", ("moment",), (1,)),
        ("places", ("moment",), ()),
        ("undo", (), ()),
        ("redo", (), ()),
        ("actions", (), ()),
        ("same_dials", ("one", "other"), (1, 3)),
    )),
    ("sets", "Effects", ("prime", "generators"), (2, GENERATORS), nothing, (
        ("generators", (), ()),
        ("stride", (), ()),
        ("translation", (), ()),
        ("basis", (), ()),
        ("contains", ("effect",), (MEMBER,)),
        ("certificate", ("effect",), (MEMBER,)),
        ("certificate", ("effect",), (STRANGER,)),
        ("checks", ("effect", "value"), (MEMBER, ("recipe", [0, 1], 2, [((2, 1),), ()]))),
        ("checks", ("effect", "value"), (STRANGER, ("barrier", 2, ((), 2), [((0, 1), (1, 1))]))),
        ("cosets", (), ()),
        ("is_within", ("other",), (another_set,)),
    )),
)


def function_called(module, name):
    return getattr(importlib.import_module("dialroad." + module), name)


def shown(value):
    """A text that tells apart what == does not: lists and tuples, True and 1, and the order of a dict."""
    if isinstance(value, function_called("road", "Road")):
        return "road " + repr((value.actions(), value.places()))
    return repr(value)


class InterfaceTest(unittest.TestCase):
    def test_functions_are_defined_in_their_files_with_these_parameters(self):
        for module, name, parameters, _ in FUNCTIONS:
            with self.subTest(name):
                function = function_called(module, name)
                self.assertTrue(inspect.isfunction(function))
                self.assertEqual(function.__module__, "dialroad." + module)
                self.assertEqual(tuple(inspect.signature(function).parameters), parameters)

    def test_arguments_by_name(self):
        for module, name, parameters, arguments in FUNCTIONS:
            with self.subTest(name):
                function = function_called(module, name)
                by_position = function(*arguments)
                self.assertEqual(shown(function(**dict(zip(parameters, arguments)))), shown(by_position))
                backwards = dict(list(zip(parameters, arguments))[::-1])
                self.assertEqual(shown(function(**backwards)), shown(by_position))
                mixed = function(arguments[0], **dict(zip(parameters[1:], arguments[1:])))
                self.assertEqual(shown(mixed), shown(by_position))


def class_called(module, name):
    return function_called(module, name)


def copies(arguments):
    """The arguments of a call, with new objects in the places of functions that make them."""
    return tuple(part() if callable(part) else part for part in copy.deepcopy(arguments))


def called(thing, method, arguments):
    """What a method of an object returns."""
    return getattr(thing, method)(*copies(arguments))


def makers():
    """Each class with its name, a function that makes an object of arguments, the arguments and the methods."""
    for module, name, parameters, arguments, prepare, methods in CLASSES:
        def make(*given, module=module, name=name, prepare=prepare, **named):
            thing = class_called(module, name)(*given, **named)
            prepare(thing)
            return thing

        yield name, make, parameters, arguments, methods


def calls():
    """Each method of each class: how to make an object, and the arguments of a call with their names."""
    for name, make, _, arguments, methods in makers():
        for method, parameters, inner in methods:
            yield name + "." + method, lambda: make(*copies(arguments)), method, parameters, inner


class ClassesTest(unittest.TestCase):
    def test_classes_are_defined_in_their_files_with_these_parameters(self):
        for module, name, parameters, _, _, methods in CLASSES:
            one = class_called(module, name)
            self.assertTrue(inspect.isclass(one))
            self.assertEqual(one.__module__, "dialroad." + module)
            self.assertEqual(tuple(inspect.signature(one).parameters), parameters)
            for method, inner, _ in methods:
                with self.subTest(name + "." + method):
                    self.assertTrue(inspect.isfunction(vars(one)[method]))
                    self.assertEqual(tuple(inspect.signature(vars(one)[method]).parameters), ("self", *inner))

    def test_arguments_by_name(self):
        for name, make, parameters, arguments, methods in makers():
            by_name = make(**dict(list(zip(parameters, copies(arguments)))[::-1]))
            by_position = make(*copies(arguments))
            for method, _, inner in methods:
                self.assertEqual(shown(called(by_name, method, inner)), shown(called(by_position, method, inner)))
        for name, make, method, parameters, inner in calls():
            with self.subTest(name):
                named = dict(list(zip(parameters, copies(inner)))[::-1])
                self.assertEqual(shown(getattr(make(), method)(**named)), shown(called(make(), method, inner)))

    def test_arguments_stay_as_they_were(self):
        for _, make, _, arguments, _ in makers():
            outer = copies(arguments)
            make(*outer)
            self.assertEqual(shown(outer), shown(copies(arguments)))
        for name, make, method, _, inner in calls():
            with self.subTest(name):
                given = copies(inner)
                getattr(make(), method)(*given)
                for before, after in zip(copies(inner), given):
                    self.assertEqual(before, after)

    def test_equal_objects_return_equal_results(self):
        for name, make, _, arguments, methods in makers():
            one, other = make(*copies(arguments)), make(*copies(arguments))
            for method, _, inner in methods:
                with self.subTest(name + "." + method):
                    self.assertEqual(shown(called(one, method, inner)), shown(called(other, method, inner)))

    def test_lists_that_were_passed_or_returned_may_be_changed(self):
        for name, make, _, arguments, methods in makers():
            outer = copies(arguments)
            one, other = make(*outer), make(*copies(arguments))
            emptied(outer)
            for method, _, inner in methods:
                if method not in ("enter", "run"):
                    given = copies(inner)
                    emptied(getattr(one, method)(*given))
                    emptied(given)
                    called(other, method, inner)
            for method, _, inner in methods:
                with self.subTest(name + "." + method):
                    self.assertEqual(shown(called(one, method, inner)), shown(called(other, method, inner)))

    def test_results_that_are_classes_of_their_own(self):
        save = function_called("storage", "save")
        self.assertEqual(list(inspect.signature(save).parameters), ["road"])
        self.assertEqual(save.__module__, "dialroad.storage")
        road = class_called("road", "Road")(5)
        travelled(road)
        self.assertEqual(save(road=road), save(road))
        self.assertEqual(len(road.actions()), 4)
        self.assertEqual(road.redo(), ("run", "ann", [("turn", 1)]))


def emptied(value):
    """Empties all lists and dicts within a value."""
    if isinstance(value, (list, tuple)):
        for part in value:
            emptied(part)
    if isinstance(value, (list, dict)):
        value.clear()


class NothingIsModifiedTest(unittest.TestCase):
    def test_arguments_stay_as_they_were(self):
        for module, name, _, arguments in FUNCTIONS:
            with self.subTest(name):
                given = copy.deepcopy(arguments)
                function_called(module, name)(*given)
                self.assertEqual(shown(given), shown(arguments))

    def test_equal_calls_return_equal_results(self):
        for module, name, _, arguments in FUNCTIONS:
            with self.subTest(name):
                function = function_called(module, name)
                first = shown(function(*arguments))
                for prime in PRIMES:
                    function_called("effects", "power")(prime, effect(1, prime), 3)
                self.assertEqual(shown(function(*copy.deepcopy(arguments))), first)

    def test_the_pairs_that_are_normalized_stay_as_they_were(self):
        normalize = function_called("polynomials", "normalize")
        pairs = [(3, 1), (1, 9), (3, 1)]
        result = normalize(5, pairs)
        self.assertEqual(pairs, [(3, 1), (1, 9), (3, 1)])
        pairs.append((7, 1))
        pairs[0] = (9, 9)
        self.assertEqual(result, ((1, 4), (3, 2)))


class NewListsTest(unittest.TestCase):
    def check(self, module, name, arguments, change):
        function = function_called(module, name)
        expected = shown(function(*arguments))
        change(function(*arguments))
        self.assertEqual(shown(function(*arguments)), expected)

    def test_changing_a_list_that_was_returned_changes_nothing_else(self):
        def empty_all(result):
            for part in [result] if isinstance(result, list) else result:
                part.clear()

        def empty_routes(result):
            for route in result:
                route.clear()

        def empty_inner(result):
            result[0][2].clear()
            result.append(("turn", 1))

        self.check("notation", "parse_program", ("",), lambda result: result.append(("step", 1)))
        self.check("notation", "parse_program", ("repeat 1 [ ]",), lambda result: result[0][2].append(("step", 1)))
        self.check("notation", "parse_program", ("repeat 1 [ step 1 ] step 2",), empty_inner)
        self.check("notation", "parse_program", ("step 1",), empty_all)
        walks = ([(0, 3), (10, 10)], [5, 12, 6])
        for change in (empty_all, empty_routes):
            self.check("walkers", "plan", walks, change)
        self.check("walkers", "unused", walks, empty_all)
        for one in (EFFECT, ((), 0), ((), -2)):
            self.check("lengths", "shortest_program", (5, one), lambda result: result.append(("step", 1)))
            self.check("lengths", "shortest_program", (5, one), empty_all)
            self.check("lengths", "length_certificate", (5, one), empty_all)
            self.check("lengths", "length_certificate", (5, one), lambda result: result[1].append((0, 1, 1)))

    def test_the_parts_of_a_result_are_lists_of_their_own(self):
        parse = function_called("notation", "parse_program")
        found = parse("repeat 1 [ ] repeat 1 [ ]")
        found[0][2].append(("step", 1))
        self.assertEqual(found[1], ("repeat", 1, []))
        turns, stretches = function_called("lengths", "length_certificate")(2, ((), 0))
        turns.append((0, 1))
        self.assertEqual(stretches, [])


class KindsOfValuesTest(unittest.TestCase):
    def test_results_are_polynomials_and_effects_of_tuples(self):
        is_polynomial = function_called("polynomials", "is_polynomial")
        is_effect = function_called("effects", "is_effect")
        for module, name, _, arguments in FUNCTIONS:
            with self.subTest(name):
                result = function_called(module, name)(*arguments)
                if name in ("is_polynomial", "is_effect"):
                    self.assertIs(result, False)
                elif module == "polynomials":
                    self.assertTrue(is_polynomial(arguments[0] if name != "move" else 3, result))
                elif module == "effects" and name not in ("order", "apply"):
                    self.assertTrue(is_effect(arguments[0], result))

    def test_apply_returns_a_tuple_of_a_dict_and_an_integer(self):
        result = function_called("effects", "apply")(5, (((0, 1),), 2), {3: 1}, FAR)
        self.assertEqual([type(result)] + [type(part) for part in result], [tuple, dict, int])

    def test_results_of_other_functions(self):
        kinds = {
            "is_program": bool, "shift_of": int, "executed": int, "effect_of": tuple, "value_at": int,
            "first_difference": tuple, "extent": tuple, "format_program": str, "parse_program": list, "length": int,
            "shortest_program": list, "length_certificate": tuple, "certifies_length": bool, "dead_end_depth": int,
            "count_effects": int, "conjugator": tuple, "conjugacy_name": tuple, "commute": bool, "root": tuple,
            "nth_root": tuple, "least_steps": int, "plan": list, "plan_steps": int, "unused": list,
        }
        for module, name, _, arguments in FUNCTIONS:
            if name in kinds:
                with self.subTest(name):
                    self.assertIs(type(function_called(module, name)(*arguments)), kinds.pop(name))
        self.assertEqual(kinds, {})

    def test_values_that_were_returned_may_be_passed_back(self):
        compose = function_called("effects", "compose")
        move = function_called("polynomials", "move")
        far = move(move(polynomial(3, 97, low=-FAR, high=FAR), FAR), FAR)
        one = compose(97, (far, 2 * FAR), (far, 2 * FAR))
        back = function_called("effects", "inverse")(97, one)
        self.assertEqual(compose(97, one, back), ((), 0))
        self.assertEqual(function_called("lengths", "dead_end_depth")(97, one), 1)
        size = function_called("lengths", "length")(97, one)
        certificate = function_called("lengths", "length_certificate")(97, one)
        self.assertIs(function_called("lengths", "certifies_length")(97, one, size, certificate), True)
        dials, place = function_called("effects", "apply")(97, one, {}, FAR)
        self.assertEqual(function_called("effects", "apply")(97, back, dials, place), ({}, FAR))


if __name__ == "__main__":
    unittest.main()
