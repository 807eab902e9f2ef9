"""Point 27: recipes and barriers, those that are returned and those of other hands."""

import unittest

from dialroad.sets import Effects
from tests.plain import IDENTITY, chained, followed, holds, holds_barrier, holds_recipe, repeated, some_list
from tests.plain import some_member, summed, times
from tests.samples import FAR, OTHER_VALUES, PRIMES

EXAMPLE = [(((0, 1), (1, 1)), 0), ((), 2)]
STEP, TURN = ((), 1), (((0, 1),), 0)


def samples(rounds, farthest=4):
    """Lists of effects with their primes, and for each of them members and effects near members."""
    for prime in PRIMES:
        for seed in range(rounds):
            effects = some_list(seed, prime, farthest)
            for more in range(3):
                poly, shift = some_member(more, prime, effects)
                for one in ((poly, shift), (summed(prime, poly, ((more, 1),)), shift), (poly, shift + more)):
                    yield prime, effects, one


class ReturnedTest(unittest.TestCase):
    def check(self, prime, effects, one):
        some = Effects(prime, effects)
        value = some.certificate(one)
        self.assertIs(type(value), tuple)
        self.assertEqual(value[0], "recipe" if some.contains(one) else "barrier")
        self.assertTrue(holds(prime, effects, one, value), (prime, effects, one, value))
        self.assertIs(some.checks(one, value), True)
        return value[0]

    def test_small_lists(self):
        found = [self.check(*row) for row in samples(40)]
        self.assertGreater(min(found.count("recipe"), found.count("barrier")), 200)

    def test_lists_at_the_bounds(self):
        for prime in (2, 97):
            for seed in range(12):
                effects = some_list(500 + seed, prime, 24)
                poly, shift = some_member(seed, prime, effects, 3)
                self.check(prime, effects, (poly, shift))
                self.check(prime, effects, (summed(prime, poly, ((seed, 1),)), shift))

    def test_shifts_of_100_strides(self):
        for prime, effects in ((2, EXAMPLE), (3, [(((0, 1),), 2), (((0, 1),), 3)]), (97, [(((-1, 5),), -7)])):
            some = Effects(prime, effects)
            for count in (-100, -99, 99, 100):
                self.assertEqual(self.check(prime, effects, repeated(prime, some.translation(), count)), "recipe")

    def test_kinds_of_values(self):
        word, powers, count, factors = Effects(2, EXAMPLE).certificate((((2, 1), (3, 1)), 4))
        self.assertEqual([type(part) for part in (word, powers, count, factors)], [str, list, int, list])
        word, stride, translation, basis = Effects(2, EXAMPLE).certificate(TURN)
        self.assertEqual([type(part) for part in (word, stride, translation, basis)], [str, int, tuple, list])

    def test_no_effects(self):
        self.assertEqual(Effects(2, []).certificate(IDENTITY), ("recipe", [], 0, []))
        self.assertEqual(Effects(2, []).certificate(TURN), ("barrier", 0, IDENTITY, []))
        self.assertEqual(Effects(2, []).certificate(STEP), ("barrier", 0, IDENTITY, []))


class RecipesTest(unittest.TestCase):
    def check(self, prime, effects, one, value):
        valid = holds_recipe(prime, effects, one, value)
        self.assertIs(Effects(prime, effects).checks(one, value), valid, (prime, effects, one, value))
        return valid

    def test_changed_powers_counts_and_factors(self):
        found = []
        for prime, effects, one in samples(12):
            value = Effects(prime, effects).certificate(one)
            if value[0] != "recipe" or not effects:
                continue
            word, powers, count, factors = value
            for at in range(len(effects)):
                for change in (-1, 1, prime):
                    other = powers[:at] + [powers[at] + change] + powers[at + 1:]
                    found.append(self.check(prime, effects, one, (word, other, count, factors)))
                stride = Effects(prime, effects).stride()
                for place in (0, stride, 1):
                    more = summed(prime, factors[at], ((place, 1),))
                    changed = factors[:at] + [more] + factors[at + 1:]
                    found.append(self.check(prime, effects, one, (word, powers, count, changed)))
            found.append(self.check(prime, effects, one, (word, powers, count + 1, factors)))
            found.append(self.check(prime, effects, one, (word, powers, -count, factors)))
            found.append(self.check(prime, effects, one, (word, powers[::-1], count, factors[::-1])))
        self.assertGreater(min(found.count(True), found.count(False)), 50)

    def test_powers_at_200_and_201(self):
        # The turn may have any power; the composition is then a step and turns.
        effects = [STEP, TURN]
        for prime in (3, 97):
            for many in (-201, -200, -199, 0, 199, 200, 201):
                step = chained(prime, [STEP, repeated(prime, TURN, many)])
                value = ("recipe", [1, many], 1, [(), ()])
                self.assertEqual(self.check(prime, effects, step, value), abs(many) <= 200)
            for many in (-201, -200, 200, 201):
                value = ("recipe", [many, 1 - many], 1, [(), ()])
                inside = abs(many) <= 200 and abs(1 - many) <= 200
                self.assertEqual(self.check(prime, [STEP, STEP], STEP, value), inside)

    def test_counts_at_100_and_101(self):
        for count in (-101, -100, -99, 0, 99, 100, 101):
            one = repeated(3, (((0, 1),), 2), count)
            value = ("recipe", [1], count, [()])
            self.assertEqual(self.check(3, [(((0, 1),), 2)], one, value), abs(count) <= 100)

    def test_the_order_of_the_composition(self):
        # The step comes first, so the turn is one place further.
        self.assertTrue(self.check(3, [STEP, TURN], (((1, 1),), 1), ("recipe", [1, 1], 1, [(), ()])))
        self.assertFalse(self.check(3, [STEP, TURN], (((0, 1),), 1), ("recipe", [1, 1], 1, [(), ()])))
        self.assertTrue(self.check(3, [TURN, STEP], (((0, 1),), 1), ("recipe", [1, 1], 1, [(), ()])))

    def test_what_an_effect_contributes_is_composed_with_powers_of_the_step(self):
        # The effect (1, 2) is t ** 0 composed with two steps.
        effects = [(((0, 1),), 2), STEP]
        self.assertTrue(self.check(5, effects, (((0, 1),), 0), ("recipe", [0, 1], 0, [((0, 1),), ()])))
        self.assertTrue(self.check(5, effects, (((4, 3),), 7), ("recipe", [0, 1], 7, [((4, 3),), ()])))
        # With the step (1 + t ** 2 - t ** 3, 1) = two of the first less three of the second it is another one.
        effects = [(((0, 1),), 2), (((0, 1),), 3)]
        step = followed(5, repeated(5, effects[0], 2), repeated(5, effects[1], -1))
        self.assertEqual(step[1], 1)
        inner = followed(5, effects[0], repeated(5, step, -2))[0]
        self.assertTrue(self.check(5, effects, (inner, 0), ("recipe", [2, -1], 0, [((0, 1),), ()])))
        self.assertFalse(self.check(5, effects, (summed(5, inner, ((1, 1),)), 0),
                                    ("recipe", [2, -1], 0, [((0, 1),), ()])))

    def test_the_composition_must_have_the_stride_as_its_shift(self):
        for powers in ([0], [-1], [2], [1]):
            self.assertEqual(self.check(2, [((), 3)], IDENTITY, ("recipe", powers, 0, [()])), powers == [1])
        for powers in ([0], [-1], [1]):
            self.assertEqual(self.check(2, [((), -3)], IDENTITY, ("recipe", powers, 0, [()])), powers == [-1])

    def test_exponents_are_multiples_of_the_stride(self):
        effects = [((), 2), TURN]
        for place, expected in ((0, True), (2, True), (-4, True), (1, False), (-3, False), (2 * FAR, True)):
            value = ("recipe", [1, 0], 0, [(), ((place, 1),)])
            self.assertEqual(self.check(3, effects, (((place, 1),), 0), value), expected)

    def test_stride_0(self):
        effects = [(((0, 1), (1, 1)), 0), (((3, 2),), 0)]
        one = (((0, 2), (1, 2), (3, 2)), 0)
        good = ("recipe", [0, 0], 0, [((0, 2),), ((0, 1),)])
        self.assertTrue(self.check(3, effects, one, good))
        for value in (("recipe", [0, 3], 0, good[3]), ("recipe", [3, 0], 0, good[3]), ("recipe", [0, 0], 1, good[3]),
                      ("recipe", [0, 0], -1, good[3]), ("recipe", [0, 0], 0, [((0, 2),), ((0, 2),)]),
                      ("recipe", [1, 0], 0, [((0, 1),), ((0, 1),)])):
            self.assertFalse(self.check(3, effects, one, value))
        # A factor may not move anything.
        self.assertFalse(self.check(3, effects, (((4, 2),), 0), ("recipe", [0, 0], 0, [(), ((1, 1),)])))
        self.assertFalse(self.check(3, effects, (((2, 2),), 0), ("recipe", [0, 0], 0, [(), ((-1, 1),)])))

    def test_other_effects_and_other_lists(self):
        some = Effects(2, EXAMPLE)
        value = some.certificate((((2, 1), (3, 1)), 4))
        for one in (IDENTITY, (((2, 1), (3, 1)), 2), (((0, 1), (1, 1)), 4), (((2, 1),), 4), (((2, 1), (3, 1)), 5)):
            self.assertIs(some.checks(one, value), False)
        self.assertIs(Effects(2, EXAMPLE[::-1]).checks((((2, 1), (3, 1)), 4), value), False)
        self.assertIs(Effects(2, EXAMPLE + [STEP]).checks((((2, 1), (3, 1)), 4), value), False)
        self.assertIs(Effects(3, EXAMPLE).checks((((2, 1), (3, 1)), 4), value), True)

    def test_long_recipes(self):
        effects = [(tuple((at, 1 + at % 96) for at in range(-24, 25)), shift) for shift in (24, 24, -24, 23, 0, 0)]
        powers = [100, -99, 0, -1, 0, 0]
        step = chained(97, [repeated(97, one, k) for one, k in zip(effects, powers)])
        self.assertEqual(step[1], 1)
        value = ("recipe", powers, 100, [()] * 6)
        self.assertIs(Effects(97, effects).checks(repeated(97, step, 100), value), True)
        self.assertIs(Effects(97, effects).checks(repeated(97, step, 99), value), False)


class BarriersTest(unittest.TestCase):
    def check(self, prime, effects, one, value):
        valid = holds_barrier(prime, effects, one, value)
        self.assertIs(Effects(prime, effects).checks(one, value), valid, (prime, effects, one, value))
        return valid

    def test_barriers_of_other_sets(self):
        found = []
        for prime in PRIMES:
            lists = [some_list(seed, prime, 4, 3) for seed in range(20)] + [[TURN, STEP], [STEP], []]
            for effects in lists:
                for others in lists:
                    other = Effects(prime, others)
                    value = ("barrier", other.stride(), other.translation(), other.basis())
                    for one in (some_member(5, prime, others), (((2, 1),), 1), STEP):
                        found.append(self.check(prime, effects, one, value))
        self.assertGreater(min(found.count(True), found.count(False)), 200)

    def test_larger_sets(self):
        # All effects of even shift contain the list; so a step is beyond them.
        effects = [(((0, 1),), 4), (((3, 2),), -6)]
        every = [((0, 1),), ((1, 1),)]
        self.assertTrue(self.check(3, effects, STEP, ("barrier", 2, ((), 2), every)))
        self.assertTrue(self.check(3, effects, (((0, 1),), 7), ("barrier", 2, ((), 2), every)))
        self.assertFalse(self.check(3, effects, ((), 2), ("barrier", 2, ((), 2), every)))
        self.assertFalse(self.check(3, effects, ((), 2), ("barrier", 4, ((), 4), [((k, 1),) for k in range(4)])))

    def test_one_part_changed(self):
        found = []
        for prime, effects, one in samples(12):
            some = Effects(prime, effects)
            if some.contains(one):
                continue
            stride, translation, basis = some.stride(), some.translation(), some.basis()
            for other in (-stride, stride + 1, 2 * stride, 0, 1):
                found.append(self.check(prime, effects, one, ("barrier", other, translation, basis)))
                found.append(self.check(prime, effects, one, ("barrier", other, (translation[0], other), basis)))
            for at in (-2, 0, 1, 3):
                changed = (summed(prime, translation[0], ((at, 1),)), translation[1])
                found.append(self.check(prime, effects, one, ("barrier", stride, changed, basis)))
            for at, row in enumerate(basis):
                for other in ([], [times(prime, row, 2)], [times(prime, row, 1, stride)], [row, row], [()],
                              [summed(prime, row, ((2, 1),))], [times(prime, row, 1, -1)]):
                    changed = basis[:at] + other + basis[at + 1:]
                    found.append(self.check(prime, effects, one, ("barrier", stride, translation, changed)))
            found.append(self.check(prime, effects, one, ("barrier", stride, translation, basis[::-1])))
        self.assertGreater(min(found.count(True), found.count(False)), 20)

    def test_the_form_of_the_basis(self):
        # All of these would do, if they had the form: the second effect is not in any of the sets.
        for stride, basis in ((2, [((0, 1), (1, 1))]), (2, [((2, 1), (3, 1))]), (2, [((-2, 1), (-1, 1))]),
                              (2, [((0, 2), (1, 2))]), (2, [((0, 1), (1, 1)), ((1, 1), (3, 1))]),
                              (2, [((0, 1), (3, 1)), ((1, 1), (3, 1))]), (2, [((1, 1), (3, 1)), ((0, 1), (1, 1))]),
                              (2, [((0, 1), (1, 1)), ()]), (2, [((0, 1),), ((1, 1),)]), (2, [((0, 1), (-1, 1))]),
                              (1, [((0, 1),)]), (1, [((0, 1), (1, 1))]), (1, [((0, 1), (1, 2))]),
                              (0, [((0, 1), (1, 1))]), (0, [((0, 2), (1, 2))]), (0, [((0, 1),), ((1, 1),)]),
                              (0, [((1, 1),), ((0, 1),)]), (0, [((0, 1), (1, 1)), ((1, 1),)])):
            for one in ((((0, 1),), 0), (((0, 1),), 1)):
                value = ("barrier", stride, ((), stride), basis)
                if basis != [((0, 1), (-1, 1))]:
                    self.check(3, [(((0, 1), (1, 1)), 0)], one, value)
                else:
                    self.assertIs(Effects(3, [(((0, 1), (1, 1)), 0)]).checks(one, value), False)

    def test_the_translation_must_be_reduced(self):
        effects, one = [(((0, 1), (2, 1)), 0)], (((0, 1),), 0)
        for poly in ((), ((0, 1),), ((1, 2),), ((0, 1), (1, 1))):
            self.assertTrue(self.check(3, effects, one, ("barrier", 1, (poly, 1), [((0, 1), (2, 1))])))
        for poly in (((2, 1),), ((-1, 1),), ((0, 1), (5, 1))):
            self.assertFalse(self.check(3, effects, one, ("barrier", 1, (poly, 1), [((0, 1), (2, 1))])))
        self.assertFalse(self.check(3, effects, one, ("barrier", 0, (((0, 1),), 0), [((0, 1), (2, 1))])))
        self.assertFalse(self.check(3, effects, one, ("barrier", 1, ((), -1), [((0, 1), (2, 1))])))

    def test_no_stride_is_negative(self):
        for stride in (-1, -2, -FAR):
            self.assertFalse(self.check(3, [IDENTITY], TURN, ("barrier", stride, ((), stride), [])))
            self.assertTrue(self.check(3, [IDENTITY], TURN, ("barrier", -stride, ((), -stride), [])))

    def test_very_large_strides_and_widths(self):
        effects, one = [(((-3, 1), (5, 1)), 0)], (((-3, 1),), 0)
        far = 10 ** 99
        self.assertTrue(self.check(3, [IDENTITY], one, ("barrier", far, ((), far), [])))
        self.assertTrue(self.check(3, effects, one, ("barrier", far, ((), far), [((-3, 1), (5, 1))])))
        self.assertFalse(self.check(3, effects, one, ("barrier", far, ((), far), [((5, 1), (far - 3, 1))])))
        self.assertFalse(self.check(3, effects, one, ("barrier", far, ((), far), [((5, 1),), ((far - 3, 1),)])))
        # Moved by -3, the only basis polynomial is the effect.
        self.assertTrue(self.check(3, effects, one, ("barrier", 1, ((), 1), [((0, 1), (8, 1))])))
        self.assertFalse(self.check(3, effects, one, ("barrier", 1, ((), 1), [((0, 1), (far, 1))])))
        self.assertTrue(self.check(3, [], one, ("barrier", 1, (((far - 1, 1),), 1), [((0, 1), (far, 1))])))
        self.assertTrue(self.check(3, [], STEP, ("barrier", 1, (((far - 1, 1),), 1), [((0, 1), (far, 1))])))


class OtherValuesTest(unittest.TestCase):
    def test_values_of_every_kind(self):
        some = Effects(2, EXAMPLE)
        for one in ((((2, 1), (3, 1)), 4), TURN):
            for value in OTHER_VALUES + (("recipe",), ("barrier",), ("recipe", [], 0), ("barrier", 0, IDENTITY)):
                self.assertIs(some.checks(one, value), False)
        for value in OTHER_VALUES:
            self.assertIs(Effects(3, []).checks(IDENTITY, value), False)

    def test_every_part_of_another_kind(self):
        some = Effects(2, EXAMPLE)
        for one in ((((2, 1), (3, 1)), 4), TURN):
            good = some.certificate(one)
            self.assertIs(some.checks(one, good), True)
            for at in range(4):
                for value in OTHER_VALUES + (good[at:at + 1], str(good[at]), {at: good[at]}):
                    changed = good[:at] + (value,) + good[at + 1:]
                    if changed != good:
                        self.assertIs(some.checks(one, changed), False, changed)
            for value in (list(good), good + (0,), good[:3], good[::-1], (good,), {0: good}, good[1:]):
                self.assertIs(some.checks(one, value), False)

    def test_lists_are_lists_and_tuples_are_tuples(self):
        some = Effects(2, EXAMPLE)
        one = (((2, 1), (3, 1)), 4)
        for powers, count, factors in (((0, 1), 2, [((2, 1),), ()]), ([0, 1], 2, (((2, 1),), ())),
                                       ([0, 1], 2, [[(2, 1)], ()]), ([0, 1], 2, [([2, 1],), ()]),
                                       ([0, 1], 2, [((2, 1),), []]), ([0, True], 2, [((2, 1),), ()]),
                                       ([False, 1], 2, [((2, 1),), ()]), ([0, 1], 2, [((2, True),), ()]),
                                       ([0, 1, 0], 2, [((2, 1),), ()]), ([0, 1], 2, [((2, 1),), (), ()]),
                                       ([0, 1], 2, [((2, 1),)]), ([0], 2, [((2, 1),), ()]), ([0, 1], [2], [((2, 1),), ()])):
            self.assertIs(some.checks(one, ("recipe", powers, count, factors)), False)
        self.assertIs(some.checks(one, ("recipe", [0, 1], 2, [((2, 1),), ()])), True)
        self.assertIs(Effects(2, [STEP]).checks(STEP, ("recipe", [1], True, [()])), False)
        rows = [((0, 1), (1, 1))]
        for stride, translation, basis in ((2, ((), 2), tuple(rows)), (2, [(), 2], rows), (2, ([], 2), rows),
                                           (2, ((), 2), [[(0, 1), (1, 1)]]), (2, ((), 2), [((0, 1), [1, 1])]),
                                           (2, ((), 2), [((0, 1), (1, True))]), (2, ((), 2), [((False, 1), (1, 1))]),
                                           ("2", ((), 2), rows), (2, ((), 2, 0), rows), (2, ((),), rows),
                                           (2, ((), 2), rows[0]), (2, ((), 2), rows + [None]), (-2, ((), -2), rows)):
            self.assertIs(some.checks(TURN, ("barrier", stride, translation, basis)), False)
        self.assertIs(some.checks(TURN, ("barrier", 2, ((), 2), rows)), True)
        for stride, shift in ((True, 1), (1, True), (True, True)):
            value = ("barrier", stride, ((), shift), [((0, 1), (1, 1))])
            self.assertIs(some.checks(TURN, value), False)
        for stride, shift in ((False, 0), (0, False)):
            self.assertIs(Effects(2, []).checks(TURN, ("barrier", stride, ((), shift), [])), False)
        self.assertIs(Effects(2, []).checks(TURN, ("barrier", 0, IDENTITY, [])), True)

    def test_a_word_of_the_other_kind(self):
        some = Effects(2, EXAMPLE)
        self.assertIs(some.checks(TURN, ("recipe",) + some.certificate(TURN)[1:]), False)
        self.assertIs(some.checks(IDENTITY, ("barrier",) + some.certificate(IDENTITY)[1:]), False)
        self.assertIs(some.checks(TURN, ("Barrier",) + some.certificate(TURN)[1:]), False)


if __name__ == "__main__":
    unittest.main()
