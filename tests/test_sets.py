"""Points 23 to 26 and 28: the stride, the basis, the translation, members, cosets and equal sets."""

import time
import unittest
from itertools import product as choices

from dialroad.errors import DifferentPrimes
from dialroad.sets import Effects
from tests.plain import IDENTITY, chained, divisor_of, followed, has_form, holds_recipe, remainder, repeated
from tests.plain import some_list, some_member, summed, undone
from tests.samples import OTHER_VALUES, PRIMES, all_polynomials

EXAMPLE = [(((0, 1), (1, 1)), 0), ((), 2)]


def samples(farthest=4, rounds=60):
    """Lists of effects with their primes."""
    for prime in PRIMES:
        for seed in range(rounds):
            yield prime, some_list(seed, prime, farthest)


class StrideTest(unittest.TestCase):
    def test_the_greatest_common_divisor_of_the_shifts(self):
        for shifts in ([], [0], [0, 0], [5], [-5], [4, 6], [4, -6, 0], [0, 24, 18], [-24, 23], [6, 10, 15], [24] * 6):
            self.assertEqual(Effects(3, [((), shift) for shift in shifts]).stride(), divisor_of(shifts))
        for prime, effects in samples():
            self.assertEqual(Effects(prime, effects).stride(), divisor_of([shift for _, shift in effects]))

    def test_the_generating_list(self):
        for effects in ([], EXAMPLE, EXAMPLE + EXAMPLE):
            self.assertEqual(Effects(2, effects).generators(), effects)
            self.assertEqual(Effects(2, tuple(effects)).generators(), effects)


class FormTest(unittest.TestCase):
    def check(self, prime, effects):
        """The basis and the translation have their form, are in the set, and the basis makes up all of N."""
        some = Effects(prime, effects)
        stride, translation, basis = some.stride(), some.translation(), some.basis()
        self.assertTrue(has_form(prime, stride, translation, basis), (prime, effects, basis))
        for member in [(row, 0) for row in basis] + [translation]:
            recipe = some.certificate(member)
            self.assertEqual(recipe[0], "recipe")
            self.assertTrue(holds_recipe(prime, effects, member, recipe), (prime, effects, member))
        for effect in effects:
            rounds = effect[1] // stride if stride else 0
            still = followed(prime, effect, repeated(prime, translation, -rounds))
            self.assertEqual((remainder(prime, stride, basis, still[0]), still[1]), IDENTITY)

    def test_small_lists(self):
        for prime, effects in samples():
            self.check(prime, effects)

    def test_lists_at_the_bounds(self):
        for prime in (2, 97):
            for seed in range(24):
                self.check(prime, some_list(1000 + seed, prime, 24))

    def test_all_pairs_of_small_effects(self):
        effects = [(poly, shift) for poly in all_polynomials(2, 0, 1) for shift in (-1, 0, 2)]
        for one, other in choices(effects, repeat=2):
            self.check(2, [one, other])

    def test_no_effects(self):
        for prime in PRIMES:
            some = Effects(prime, [])
            self.assertEqual((some.generators(), some.stride(), some.translation(), some.basis()),
                             ([], 0, IDENTITY, []))

    def test_shift_0_alone(self):
        # 1 + t and 2 * t + t ** 4, modulo 3.
        some = Effects(3, [(((0, 1), (1, 1)), 0), (((1, 2), (4, 1)), 0)])
        self.assertEqual(some.basis(), [((0, 1), (4, 1)), ((1, 1), (4, 2))])
        self.assertEqual(Effects(3, [(((-2, 2), (0, 1)), 0)]).basis(), [((-2, 1), (0, 2))])
        self.assertEqual(Effects(3, [(((-2, 2), (0, 1)), 0), (((-2, 1), (0, 2)), 0)]).basis(), [((-2, 1), (0, 2))])
        self.assertEqual(Effects(3, [IDENTITY]).basis(), [])

    def test_one_effect(self):
        self.assertEqual(Effects(5, [(((0, 1), (7, 2)), 3)]).translation(), (((0, 1), (7, 2)), 3))
        self.assertEqual(Effects(5, [(((0, 1),), -3)]).translation(), (((3, 4),), 3))
        self.assertEqual(Effects(5, [(((0, 1),), -3)]).basis(), [])

    def test_classes(self):
        # Modulo the stride 2 the polynomial 1 + t + t ** 2 has the class 0 and the width 2.
        self.assertEqual(Effects(2, [(((0, 1), (1, 1), (2, 1)), 0), ((), 2)]).basis(), [((0, 1), (1, 1), (2, 1))])
        # If t ** 3 belongs to N too, then t does, and no other basis polynomial has an exponent of class 1.
        some = Effects(2, [(((0, 1), (1, 1), (2, 1)), 0), (((3, 1),), 0), ((), 2)])
        self.assertEqual(some.basis(), [((0, 1), (2, 1)), ((1, 1),)])
        # A part begins at its class, also if the effects are far from it.
        self.assertEqual(Effects(5, [(((-5, 3), (1, 2)), 0), ((), -6)]).basis(), [((1, 4), (7, 1))])

    def test_the_translation_is_reduced(self):
        # 1 + t ** 2 is in N, so t ** 5 differs from t by a polynomial of N.
        some = Effects(2, [(((0, 1), (2, 1)), 0), (((5, 1),), 1)])
        self.assertEqual((some.basis(), some.translation()), ([((0, 1), (2, 1))], (((1, 1),), 1)))
        some = Effects(2, [(((0, 1), (2, 1)), 0), (((-3, 1), (-4, 1), (0, 1)), 1)])
        self.assertEqual(some.translation(), (((1, 1),), 1))

    def test_two_shifts(self):
        # The second one less the first one is (1 - t, 1); the first one less two of these is (t ** 2, 0).
        some = Effects(3, [(((0, 1),), 2), (((0, 1),), 3)])
        self.assertEqual((some.stride(), some.translation(), some.basis()), (1, ((), 1), [((0, 1),)]))
        self.check(3, [(((0, 1),), 2), (((0, 1),), 3)])


class MembersTest(unittest.TestCase):
    def test_members_in_any_order(self):
        for prime, effects in samples():
            some = Effects(prime, effects)
            self.assertIs(some.contains(IDENTITY), True)
            for seed in range(5):
                member = some_member(seed, prime, effects)
                self.assertIs(some.contains(member), True, (prime, effects, member))
                self.assertIs(some.contains(undone(prime, member)), True)

    def test_effects_near_members(self):
        found = set()
        for prime, effects in samples(rounds=30):
            some = Effects(prime, effects)
            for seed in range(3):
                poly, shift = some_member(seed, prime, effects)
                for near in ((summed(prime, poly, ((seed, 1),)), shift), (poly, shift + 1), (poly, -shift)):
                    inside = some.contains(near)
                    self.assertEqual(some.certificate(near)[0], "recipe" if inside else "barrier")
                    found.add(inside)
        self.assertEqual(found, {True, False})

    def test_against_all_members_of_finite_sets(self):
        for prime, effects in ((2, [(((0, 1), (2, 1)), 0), (((1, 1),), 0)]), (3, [(((0, 1), (1, 2)), 0)]), (5, [])):
            counts = choices(range(prime), repeat=len(effects))
            members = {chained(prime, [repeated(prime, one, k) for one, k in zip(effects, row)]) for row in counts}
            some = Effects(prime, effects)
            for poly in all_polynomials(prime, -1, 3):
                self.assertIs(some.contains((poly, 0)), (poly, 0) in members)
                self.assertIs(some.contains((poly, 1)), False)

    def test_the_whole_and_the_walks_without_turns(self):
        every, walks = Effects(3, [((), 1), (((0, 1),), 0)]), Effects(3, [((), 1)])
        for seed in range(40):
            poly, shift = some_member(seed, 3, [((), 1), (((0, 1),), 0), (((3, 2),), -2)])
            self.assertIs(every.contains((poly, shift)), True)
            self.assertIs(walks.contains((poly, shift)), poly == ())

    def test_effects_with_exponents_up_to_1000(self):
        for prime, effects in samples(24, 12):
            some = Effects(prime, effects)
            if effects:
                far = chained(prime, [repeated(prime, one, 9) for one in effects])
                if max([abs(at) for at, _ in far[0]] + [abs(far[1])]) <= 1000:
                    self.assertIs(some.contains(far), True)
        # The powers of an effect of shift 1 and no others.
        some = Effects(97, [(((0, 5), (3, 1)), 1)])
        far = repeated(97, (((0, 5), (3, 1)), 1), -997)
        self.assertIs(some.contains(far), True)
        self.assertIs(some.contains((far[0][:-1], far[1])), False)


class OtherListsTest(unittest.TestCase):
    def test_the_same_set_from_other_lists(self):
        for prime, effects in samples(rounds=40):
            some = Effects(prime, effects)
            others = [effects[::-1], [undone(prime, one) for one in effects], effects + [IDENTITY]]
            others.append(effects[:5] + [some_member(3, prime, effects)] + effects[5:])
            others.append([(row, 0) for row in some.basis()] + [some.translation()])
            if len(effects) > 1:
                others.append([followed(prime, effects[0], effects[1])] + effects[1:])
                others.append([followed(prime, undone(prime, effects[1]), effects[0])] + effects[1:])
            for other in others:
                same = Effects(prime, other)
                self.assertEqual((same.stride(), same.translation(), same.basis()),
                                 (some.stride(), some.translation(), some.basis()), (prime, effects, other))
                self.assertIs(same == some, True)
                self.assertIs(same != some, False)

    def test_a_set_with_another_member_is_another_set(self):
        for prime, effects in samples(rounds=30):
            some = Effects(prime, effects)
            for more in ((((0, 1),), 0), ((), 1), (((0, 1), (1, 1)), 2)):
                larger = Effects(prime, effects + [more])
                self.assertIs(larger == some, some.contains(more))
                self.assertIs(some.is_within(larger), True)
                self.assertIs(larger.is_within(some), some.contains(more))


class LargestListsTest(unittest.TestCase):
    SHIFTS = ([24, 23, -22, 21, 20, -19], [24, 13, 24, -24, 13, 13], [0] * 6, [24] * 6, [-18, 20, -24, 22, 0, 0],
              [24, 15, 9, -21, 12, 3], [24, -20, 16, 12, 8, 4], [24, 18, 12, 6, 0, -6], [24, 16, 8, 0, 0, -8],
              [-24, 12, 0, 12, -12, 24], [23, 23, 23, 19, 0, 0], [1, 0, 0, 0, 0, 0])

    def test_each_call_answers_quickly(self):
        for prime in (2, 97):
            for shifts in self.SHIFTS:
                effects = [(tuple((at, 1 + (at * at + 7 * k * at + k) % (prime - 1)) for at in range(-24, 25)
                                  if prime > 2 or (at * at * k + at) % 3), shift) for k, shift in enumerate(shifts)]
                start = time.perf_counter()
                some = Effects(prime, effects)
                member = followed(prime, effects[2], undone(prime, effects[4]))
                self.assertIs(some.contains(member), True)
                self.assertIs(some.checks(member, some.certificate(member)), True)
                self.assertTrue(has_form(prime, some.stride(), some.translation(), some.basis()))
                near = (effects[0][0][1:], effects[0][1] + 1)
                self.assertIs(some.checks(near, some.certificate(near)), True)
                some.cosets()
                self.assertIs(Effects(prime, effects[::-1]) == some, True)
                self.assertLess(time.perf_counter() - start, 5)


def counted_cosets(some, prime, limit):
    """How many cosets are reached from the set itself by steps and turns, or None if there are more than the limit."""
    found = [IDENTITY]
    for one in found:
        for unit in (((), 1), ((), -1), (((0, 1),), 0)):
            further = followed(prime, one, unit)
            if not any(some.contains(followed(prime, further, undone(prime, other))) for other in found):
                found.append(further)
        if len(found) > limit:
            return None
    return len(found)


class CosetsTest(unittest.TestCase):
    def test_against_a_count(self):
        seen = set()
        for prime in (2, 3, 5):
            for seed in range(100):
                effects = some_list(seed, prime, 3, 4)
                some = Effects(prime, effects)
                expected = counted_cosets(some, prime, 40)
                number = some.cosets()
                if expected is None:
                    self.assertTrue(number is None or number > 40, (prime, effects))
                else:
                    self.assertEqual(number, expected, (prime, effects))
                seen.add(number)
        self.assertIn(None, seen)
        self.assertGreater(len(seen), 6)

    def test_known_numbers(self):
        turn = (((0, 1),), 0)
        for prime in PRIMES:
            self.assertEqual(Effects(prime, [turn, ((), 1)]).cosets(), 1)
            self.assertIsNone(Effects(prime, [turn, ((), 2)]).cosets())
            self.assertEqual(Effects(prime, [turn, (((1, 1),), 0), ((), 2)]).cosets(), 2)
            # Only the number of turns at dials counts, modulo the prime.
            self.assertEqual(Effects(prime, [(((0, 1), (1, prime - 1)), 0), ((), 1)]).cosets(), prime)
            self.assertEqual(Effects(prime, [(((0, 1), (24, 1)), 0), ((), 1)]).cosets(), prime ** 24)

    def test_infinitely_many(self):
        for effects in ([], [IDENTITY], [(((0, 1),), 0)], [((), 1)], [((), -24)], [(((0, 1),), 5)]):
            self.assertIsNone(Effects(3, effects).cosets())


class EqualityTest(unittest.TestCase):
    def test_other_primes(self):
        for effects in ([], [((), 1)], [(((0, 1),), 0), ((), 2)]):
            self.assertIs(Effects(2, effects) == Effects(2, effects), True)
            self.assertIs(Effects(2, effects) == Effects(3, effects), False)
            self.assertIs(Effects(2, effects) != Effects(3, effects), True)

    def test_other_values(self):
        for some in (Effects(2, []), Effects(2, EXAMPLE)):
            for value in OTHER_VALUES + (some.generators(), some.basis(), some.translation(), (2, EXAMPLE)):
                self.assertIs(some == value, False)
                self.assertIs(value == some, False)
                self.assertIs(some != value, True)

    def test_equal_strides_and_bases_do_not_suffice(self):
        self.assertIs(Effects(2, [((), 1)]) == Effects(2, [(((0, 1),), 1)]), False)
        self.assertIs(Effects(2, [((), 1)]) == Effects(2, [((), 2)]), False)
        self.assertIs(Effects(2, [(((0, 1),), 0)]) == Effects(2, [(((1, 1),), 0)]), False)


class WithinTest(unittest.TestCase):
    def test_both_ways(self):
        four, two, some = Effects(2, [((), 4)]), Effects(2, [((), 2)]), Effects(2, EXAMPLE)
        self.assertIs(four.is_within(two), True)
        self.assertIs(two.is_within(four), False)
        self.assertIs(two.is_within(some), True)
        self.assertIs(some.is_within(two), False)
        self.assertIs(some.is_within(some), True)
        self.assertIs(Effects(2, []).is_within(four), True)
        self.assertIs(Effects(2, []).is_within(Effects(2, [])), True)

    def test_both_ways_is_equality(self):
        sets = [Effects(3, some_list(seed, 3, 2, 2)) for seed in range(40)]
        for one in sets:
            for other in sets:
                self.assertIs(one.is_within(other) and other.is_within(one), one == other)

    def test_different_primes(self):
        for one, other in (([], []), (EXAMPLE, []), (EXAMPLE, EXAMPLE)):
            with self.assertRaises(DifferentPrimes):
                Effects(2, one).is_within(Effects(3, other))
            with self.assertRaises(DifferentPrimes):
                Effects(5, other).is_within(Effects(2, one))


if __name__ == "__main__":
    unittest.main()
