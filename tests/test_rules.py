"""Points 29 and 30: effects that are the same under rules, classes, and rule certificates."""

import unittest
from itertools import product as choices
from random import Random

from dialroad.polynomials import greatest_divisor
from dialroad.rules import Rules
from dialroad.sets import Effects
from tests.plain import IDENTITY, chained, followed, product, repeated, some_list, some_member, some_polynomial
from tests.plain import summed, times, undone
from tests.samples import FAR, OTHER_VALUES, PRIMES, all_polynomials

STEP, TURN = ((), 1), (((0, 1),), 0)


def samples(rounds, farthest=3):
    """Lists of rules with their primes."""
    for prime in PRIMES:
        for seed in range(rounds):
            yield prime, some_list(seed, prime, farthest)


def less(prime, shift):
    """1 - t ** shift."""
    return summed(prime, ((0, 1),), ((shift, prime - 1),))


def inserted(seed, prime, rules):
    """A composition of conjugates of rules and of their inverses."""
    source = Random(seed)
    total = IDENTITY
    for _ in range(source.randint(0, 3) if rules else 0):
        rule = source.choice(rules)
        x = (some_polynomial(source, prime, 3, 3), source.randint(-3, 3))
        inner = rule if source.random() < 0.5 else undone(prime, rule)
        total = chained(prime, [total, x, inner, undone(prime, x)])
    return total


def plainly_same(prime, rules, effect, farthest):
    """Whether an effect is the same as the identity, by trying counts of the rules up to the farthest."""
    poly, shift = effect
    generator = ()
    for inner, distance in rules:
        generator = greatest_divisor(prime, generator, less(prime, distance))
        generator = greatest_divisor(prime, generator, product(prime, less(prime, 1), inner))
    for counts in choices(range(-farthest, farthest + 1), repeat=len(rules)):
        if sum(count * distance for count, (_, distance) in zip(counts, rules)) == shift:
            left = summed(prime, poly, *[times(prime, inner, -count) for count, (inner, _) in zip(counts, rules)])
            if left == () or (generator and greatest_divisor(prime, generator, left) == generator):
                return True
    return False


def holds(prime, rules, effect, value):
    """Whether a rule certificate, whose parts have the right kinds, adds up in the words of point 30."""
    counts, firsts, seconds = value
    if not len(counts) == len(firsts) == len(seconds) == len(rules):
        return False
    if sum(count * shift for count, (_, shift) in zip(counts, rules)) != effect[1]:
        return False
    parts = [times(prime, poly, count) for count, (poly, _) in zip(counts, rules)]
    for factor, (_, shift) in zip(firsts, rules):
        parts.append(product(prime, factor, less(prime, shift)))
    for factor, (poly, _) in zip(seconds, rules):
        parts.append(product(prime, factor, product(prime, less(prime, 1), poly)))
    return summed(prime, *parts) == effect[0]


class SameTest(unittest.TestCase):
    def test_against_a_search_over_counts(self):
        found = set()
        for prime, rules in ((2, [(((0, 1), (1, 1)), 2)]), (2, [(((0, 1),), 2), ((), 3)]), (3, [(((0, 1),), 2)]),
                             (3, [(((0, 1), (1, 1)), 0)]), (2, [(((0, 1),), 1), (((1, 1), (3, 1)), 0)]), (2, []),
                             (3, [(((0, 1), (2, 1)), 2), (((0, 1),), -2)]), (2, [(((0, 1), (1, 1), (2, 1)), 3)]),
                             (3, [IDENTITY]), (2, [((), 2), (((0, 1),), 2)]), (3, [((), 2), (((0, 1),), 1)])):
            some = Rules(prime, rules)
            for poly in all_polynomials(prime, -1, 2):
                for shift in (-2, -1, 0, 1, 2, 3):
                    expected = plainly_same(prime, rules, (poly, shift), 7)
                    self.assertIs(some.same((poly, shift), IDENTITY), expected, (prime, rules, poly, shift))
                    found.add(expected)
        self.assertEqual(found, {True, False})

    def test_inserting_and_removing_rules(self):
        for prime, rules in samples(25):
            some = Rules(prime, rules)
            for seed in range(4):
                one = some_member(seed, prime, [STEP, TURN, (((2, 1),), -1)])
                other = some_member(seed + 9, prime, [STEP, TURN, (((-1, 1),), 2)])
                middle = inserted(seed, prime, rules)
                whole = chained(prime, [one, middle, other])
                self.assertIs(some.same(whole, followed(prime, one, other)), True, (prime, rules, middle))
                self.assertIs(some.same(followed(prime, one, other), whole), True)

    def test_an_equivalence_that_composing_keeps(self):
        found = set()
        for prime, rules in samples(8, 2):
            some = Rules(prime, rules)
            effects = [some_member(seed, prime, [STEP, TURN, (((1, 1),), 1)], 4) for seed in range(9)]
            effects += [followed(prime, effects[0], inserted(3, prime, rules)), IDENTITY]
            same = {(a, b): some.same(a, b) for a in effects for b in effects}
            x = (((0, 1), (3, 1)), 2)
            for a, b in choices(effects, repeat=2):
                self.assertIs(same[a, a], True)
                self.assertIs(same[a, b], same[b, a])
                self.assertIs(some.same(followed(prime, x, a), followed(prime, x, b)), same[a, b])
                self.assertIs(some.same(followed(prime, a, x), followed(prime, b, x)), same[a, b])
                for c in effects:
                    self.assertTrue(not (same[a, b] and same[b, c]) or same[a, c])
                found.add(same[a, b])
        self.assertEqual(found, {True, False})

    def test_no_rules_and_the_identity_alone(self):
        for prime in PRIMES:
            for rules in ([], [IDENTITY], [IDENTITY, IDENTITY]):
                some = Rules(prime, rules)
                for one, other in choices([IDENTITY, STEP, TURN, (((0, 1), (1, 1)), -1)], repeat=2):
                    self.assertIs(some.same(one, other), one == other)
                self.assertIsNone(some.classes())

    def test_rules_of_shift_0_alone(self):
        some = Rules(5, [(((0, 1), (1, 4)), 0)])
        # Turning a dial back and its neighbour on changes nothing, so only the sum of all turns counts.
        self.assertIs(some.same((((0, 1), (7, 1)), 3), (((-4, 2),), 3)), True)
        self.assertIs(some.same((((0, 1), (7, 1)), 3), (((-4, 1),), 3)), False)
        self.assertIs(some.same(((), 3), ((), 2)), False)
        self.assertIsNone(some.classes())

    def test_other_lists_of_the_same_rules(self):
        for prime, rules in samples(12, 2):
            if not rules:
                continue
            some = Rules(prime, rules)
            x = (((0, 1), (2, 1)), -1)
            others = [rules + [rules[0]], [undone(prime, rules[0])] + rules[1:], rules[::-1], tuple(rules),
                      [chained(prime, [undone(prime, x), rules[0], x])] + rules[1:], rules + [inserted(1, prime, rules)]]
            for other in others:
                same = Rules(prime, other)
                self.assertEqual(same.classes(), some.classes())
                for seed in range(6):
                    one = some_member(seed, prime, [STEP, TURN, (((1, 1),), 1)] + rules)
                    self.assertIs(same.same(one, IDENTITY), some.same(one, IDENTITY), (prime, rules, other, one))

    def test_a_rule_is_the_same_as_the_identity_and_turns_are_not_lost(self):
        some = Rules(3, [(((0, 1),), 2)])
        self.assertIs(some.same((((0, 1),), 2), IDENTITY), True)
        self.assertIs(some.same((((1, 1),), 2), IDENTITY), True)
        self.assertIs(some.same(((), 2), IDENTITY), False)
        # Six steps by two places each turn six dials, which is as good as none; so are three.
        self.assertIs(some.same(((), 6), IDENTITY), True)
        self.assertIs(some.same(((), 12), IDENTITY), True)
        self.assertIs(some.same(((), 4), IDENTITY), False)


def counted_classes(some, prime, limit):
    """How many effects that are pairwise not the same are reached by steps and turns, or None beyond the limit."""
    found = [IDENTITY]
    for one in found:
        for unit in (STEP, undone(prime, STEP), TURN):
            further = followed(prime, one, unit)
            if not any(some.same(further, other) for other in found):
                found.append(further)
        if len(found) > limit:
            return None
    return len(found)


class ClassesTest(unittest.TestCase):
    def test_against_a_count_of_representatives(self):
        seen = set()
        for prime in (2, 3, 5):
            for seed in range(60):
                rules = some_list(seed, prime, 3, 3)
                some = Rules(prime, rules)
                expected, number = counted_classes(some, prime, 40), some.classes()
                if expected is None:
                    self.assertTrue(number is None or number > 40, (prime, rules))
                else:
                    self.assertEqual(number, expected, (prime, rules))
                seen.add(number)
        self.assertIn(None, seen)
        self.assertGreater(len(seen), 6)

    def test_known_numbers(self):
        for prime in PRIMES:
            self.assertEqual(Rules(prime, [STEP]).classes(), prime)
            self.assertEqual(Rules(prime, [((), 24)]).classes(), 24 * prime ** 24)
            self.assertEqual(Rules(prime, [STEP, TURN]).classes(), 1)
            self.assertEqual(Rules(prime, [TURN, ((), 6)]).classes(), 6)
            self.assertIsNone(Rules(prime, [TURN]).classes())
            self.assertEqual(Rules(prime, [(((0, 1),), 1), STEP]).classes(), 1)
            # Each step turns a dial too.
            self.assertEqual(Rules(prime, [(((0, 1),), 1)]).classes(), prime)


def normal_set(prime, rules):
    """The set of all compositions of conjugates of rules: rules and conjugates are added until no step leads out."""
    some = Effects(prime, rules)
    while True:
        members = [(row, 0) for row in some.basis()] + [some.translation()]
        conjugates = [chained(prime, [undone(prime, x), one, x]) for one in members
                      for x in (STEP, undone(prime, STEP), TURN)]
        missing = [one for one in conjugates if not some.contains(one)]
        if not missing:
            return some
        some = Effects(prime, members + missing[:1])


class DefinitionTest(unittest.TestCase):
    def test_against_the_set_of_all_compositions_of_conjugates(self):
        found = set()
        for prime in (2, 3, 5):
            for seed in range(60):
                rules = some_list(seed, prime, 3, 3)
                # Only with a shift is this set composed of finitely many effects.
                if any(shift for _, shift in rules):
                    some, closed = Rules(prime, rules), normal_set(prime, rules)
                    self.assertEqual(some.classes(), closed.cosets(), (prime, rules))
                    for more in range(6):
                        one = some_member(6 * seed + more, prime, [STEP, TURN, (((1, 1),), 1)])
                        self.assertIs(some.same(one, IDENTITY), closed.contains(one), (prime, rules, one))
                        found.add(closed.contains(one))
        self.assertEqual(found, {True, False})


class CertificatesTest(unittest.TestCase):
    def test_returned_certificates_add_up(self):
        found = []
        for prime, rules in samples(20):
            some = Rules(prime, rules)
            for seed in range(4):
                for one in (inserted(seed, prime, rules), some_member(seed, prime, rules),
                            some_member(seed, prime, [STEP, TURN, (((1, 1),), -1)])):
                    value = some.certificate(one)
                    found.append(value is None)
                    self.assertIs(value is not None, some.same(one, IDENTITY))
                    if value is not None:
                        self.assertEqual([type(value)] + [type(part) for part in value], [tuple, list, list, list])
                        self.assertTrue(holds(prime, rules, one, value), (prime, rules, one, value))
                        self.assertIs(some.checks(one, value), True)
        self.assertGreater(min(found.count(True), found.count(False)), 50)

    def test_rules_at_the_bounds(self):
        for prime in (2, 97):
            for seed in range(15):
                rules = some_list(300 + seed, prime, 24)
                some = Rules(prime, rules)
                for one in (some_member(seed, prime, rules), inserted(seed, prime, rules)):
                    value = some.certificate(one)
                    self.assertTrue(holds(prime, rules, one, value), (prime, rules, one))
                    self.assertIs(some.checks(one, value), True)

    def test_one_part_changed(self):
        found = []
        for prime, rules in samples(6):
            some = Rules(prime, rules)
            one = inserted(5, prime, rules)
            counts, firsts, seconds = some.certificate(one)
            for at in range(len(rules)):
                for change in (-1, 1, prime):
                    changed = counts[:at] + [counts[at] + change] + counts[at + 1:]
                    found.append(self.check(prime, rules, one, (changed, firsts, seconds)))
                for place in (0, 2):
                    more = firsts[:at] + [summed(prime, firsts[at], ((place, 1),))] + firsts[at + 1:]
                    found.append(self.check(prime, rules, one, (counts, more, seconds)))
                    more = seconds[:at] + [summed(prime, seconds[at], ((place, 1),))] + seconds[at + 1:]
                    found.append(self.check(prime, rules, one, (counts, firsts, more)))
            found.append(self.check(prime, rules, one, (counts, seconds, firsts)))
            found.append(self.check(prime, rules, one, (counts[::-1], firsts[::-1], seconds[::-1])))
            found.append(self.check(prime, rules, followed(prime, one, TURN), (counts, firsts, seconds)))
            found.append(self.check(prime, rules, followed(prime, one, STEP), (counts, firsts, seconds)))
        self.assertGreater(min(found.count(True), found.count(False)), 20)

    def check(self, prime, rules, one, value):
        valid = holds(prime, rules, one, value)
        self.assertIs(Rules(prime, rules).checks(one, value), valid, (prime, rules, one, value))
        return valid

    def test_certificates_of_other_hands(self):
        rules = [(((0, 1), (1, 1)), 2), (((0, 2),), -3)]
        for counts in ([0, 0], [3, 2], [-3, -2], [1, 0], [FAR, -FAR]):
            for firsts in ([(), ()], [((5, 1),), ((-7, 2),)], [((FAR, 1),), ()]):
                for seconds in ([(), ()], [((-1, 1), (2, 2)), ((0, 1),)], [(), ((-FAR, 1),)]):
                    shift = 2 * counts[0] - 3 * counts[1]
                    parts = [times(3, rules[0][0], counts[0]), times(3, rules[1][0], counts[1])]
                    parts += [product(3, firsts[0], less(3, 2)), product(3, firsts[1], less(3, -3))]
                    parts += [product(3, factor, product(3, less(3, 1), poly))
                              for factor, (poly, _) in zip(seconds, rules)]
                    value = (counts, firsts, seconds)
                    self.assertTrue(self.check(3, rules, (summed(3, *parts), shift), value))
                    self.assertFalse(self.check(3, rules, (summed(3, ((0, 1),), *parts), shift), value))
                    self.assertFalse(self.check(3, rules, (summed(3, *parts), shift + 1), value))

    def test_no_rules(self):
        self.assertEqual(Rules(2, []).certificate(IDENTITY), ([], [], []))
        self.assertIs(Rules(2, []).checks(IDENTITY, ([], [], [])), True)
        self.assertIs(Rules(2, []).checks(TURN, ([], [], [])), False)
        self.assertIsNone(Rules(2, []).certificate(TURN))

    def test_values_of_every_kind(self):
        some, one = Rules(2, [((), 2)]), (((0, 1), (2, 1)), 4)
        good = ([2], [((0, 1),)], [()])
        self.assertIs(some.checks(one, good), True)
        for value in OTHER_VALUES + (list(good), good[:2], good + ([],), good[0], (good,), {0: good}):
            self.assertIs(some.checks(one, value), False)
            self.assertIs(Rules(2, []).checks(IDENTITY, value), False)
        for at in range(3):
            for value in OTHER_VALUES + (tuple(good[at]), good[at] * 2, [good[at]], [[]], [True], [None], [2, 2]):
                if value != good[at]:
                    self.assertIs(some.checks(one, good[:at] + (value,) + good[at + 1:]), False, (at, value))
        for factor in (((0, 2),), ((0, True),), [(0, 1)], ([0, 1],), ((0, 1), (0, 1)), ((2, 1), (0, 1)), ((False, 1),)):
            self.assertIs(some.checks(one, ([2], [factor], [()])), False)
            self.assertIs(some.checks(one, ([2], [((0, 1),)], [factor])), False)
        self.assertIs(Rules(2, [STEP]).checks(STEP, ([True], [()], [()])), False)
        self.assertIs(Rules(2, [STEP]).checks(STEP, ([1], [()], [()])), True)

    def test_effects_with_exponents_up_to_1000(self):
        rules = [(((0, 1), (3, 1)), 2), (((-24, 1), (24, 1)), -5), ((), 24)]
        for prime in (2, 97):
            some = Rules(prime, rules)
            far = chained(prime, [repeated(prime, rules[0], 200), (((-900, 1),), 0), repeated(prime, rules[1], 7)])
            value = some.certificate(far)
            self.assertEqual(value is not None, some.same(far, IDENTITY))
            whole = repeated(prime, rules[0], 400)
            self.assertTrue(holds(prime, rules, whole, some.certificate(whole)))


if __name__ == "__main__":
    unittest.main()
