"""Points 18 to 20: lengths, shortest programs, certificates, dead ends and numbers of effects."""

import unittest
from random import Random

from dialroad.errors import TooLong
from dialroad.lengths import certifies_length, count_effects, dead_end_depth, length, length_certificate
from dialroad.lengths import shortest_program
from tests.samples import FAR, OTHER_VALUES, PRIMES, all_polynomials, effect, ran

UNITS = (("step", 1), ("step", -1), ("turn", 1), ("turn", -1))
IDENTITY = ((), 0)


def followed(prime, one, unit):
    """The effect of an effect followed by a unit instruction."""
    polynomial, shift = one
    if unit[0] == "step":
        return (polynomial, shift + unit[1])
    values = dict(polynomial)
    values[shift] = (values.get(shift, 0) + unit[1]) % prime
    return (tuple((at, values[at]) for at in sorted(values) if values[at]), shift)


def layers(prime, size):
    """A list of sets: the effects whose shortest programs have 0, 1, .. unit instructions."""
    found = [{IDENTITY}]
    seen = {IDENTITY}
    for _ in range(size):
        reached = {followed(prime, one, unit) for one in found[-1] for unit in UNITS} - seen
        seen |= reached
        found.append(reached)
    return found


LAYERS = {2: layers(2, 11), 3: layers(3, 8), 5: layers(5, 7), 7: layers(7, 7), 97: layers(97, 6)}


def some_effects(prime):
    """Effects of many shapes, also far ones."""
    found = [effect(seed, prime) for seed in range(30)]
    found += [effect(seed, prime, low=-FAR, high=FAR) for seed in range(10)]
    found += [(polynomial, shift) for polynomial, _ in found[:5] for shift in (-20, -3, -1, 0, 1, 3, 20)]
    found += [((), shift) for shift in (0, 1, -1, 7, FAR, -FAR)]
    return found + [(((place, prime - 1),), shift) for place in (0, 4, -4, FAR) for shift in (0, 4, -4, 9, -9)]


class LengthTest(unittest.TestCase):
    def test_against_a_search_over_all_short_programs(self):
        for prime, found in LAYERS.items():
            for size, layer in enumerate(found):
                for one in layer:
                    self.assertEqual(length(prime, one), size, (prime, one))

    def test_single_effects(self):
        for prime, one, expected in (
            (2, IDENTITY, 0), (97, IDENTITY, 0), (5, ((), 7), 7), (5, ((), -7), 7), (2, (((0, 1),), 0), 1),
            (97, (((0, 48),), 0), 48), (97, (((0, 49),), 0), 48), (97, (((0, 96),), 0), 1), (5, (((3, 1),), 0), 7),
            (5, (((3, 1),), 3), 4), (5, (((3, 1),), 5), 6), (5, (((3, 1),), -2), 9), (5, (((-3, 2),), -1), 7),
            (3, (((-2, 1), (4, 2)), 1), 13), (3, (((-2, 1), (4, 2)), -1), 13), (3, (((-2, 1), (4, 2)), 0), 14),
        ):
            self.assertEqual(length(prime, one), expected, one)

    def test_far_effects(self):
        self.assertEqual(length(2, (((-FAR, 1), (FAR, 1)), 0)), 4 * FAR + 2)
        self.assertEqual(length(2, (((-FAR, 1), (FAR, 1)), -FAR)), 3 * FAR + 2)
        self.assertEqual(length(2, ((), FAR)), FAR)
        wide = tuple((k * 10 ** 25, 48) for k in range(-200, 200))
        self.assertEqual(length(97, (wide, 5)), 2 * 399 * 10 ** 25 - 5 + 400 * 48)


class ShortestProgramTest(unittest.TestCase):
    def check(self, prime, one):
        found = shortest_program(prime, one)
        self.assertIsInstance(found, list)
        self.assertTrue(all(row in UNITS and isinstance(row, tuple) for row in found))
        self.assertEqual(len(found), length(prime, one))
        dials, place = ran(prime, found)
        self.assertEqual((tuple(dials.items()), place), one)

    def test_all_effects_of_a_search(self):
        for prime, found in LAYERS.items():
            for layer in found:
                for one in layer:
                    self.check(prime, one)

    def test_other_effects(self):
        for prime in PRIMES:
            for one in some_effects(prime):
                if length(prime, one) <= 10000:
                    self.check(prime, one)

    def test_lengths_of_10000_and_10001(self):
        for prime, one in (
            (2, ((), 10000)), (2, ((), -10000)), (97, (((-2490, 20), (2500, 40)), -40)), (2, (((9999, 1),), 9999)),
            (5, (((-4999, 2),), 0)), (3, (tuple((k, 1 + k % 2) for k in range(5000)), 4999)),
        ):
            self.assertIn(length(prime, one), (9999, 10000))
            self.check(prime, one)
        for prime, one, size in (
            (2, ((), 10001), 10001), (2, ((), -10001), 10001), (2, (((10000, 1),), 10000), 10001),
            (5, (((-4999, 3), (0, 1)), 0), 10001), (3, (((5000, 2),), 0), 10001), (3, ((), FAR), FAR),
            (2, (((FAR, 1),), 0), 2 * FAR + 1),
        ):
            self.assertEqual(length(prime, one), size)
            with self.assertRaises(TooLong) as caught:
                shortest_program(prime, one)
            self.assertEqual(caught.exception.limit, 10000)


def is_integer(value):
    return type(value) is int


def plain_sum(prime, one, value):
    """The sum of a length certificate of justified entries, edge by edge as point 19 says, or None."""
    polynomial, shift = one
    if type(value) is not tuple or len(value) != 2 or [type(part) for part in value] != [list, list]:
        return None
    total, last = 0, None
    for row in value[0]:
        if type(row) is not tuple or len(row) != 2 or not all(map(is_integer, row)):
            return None
        place, count = row
        turned = dict(polynomial).get(place)
        if turned is None or not 1 <= count <= min(turned, prime - turned) or (last is not None and place <= last):
            return None
        total, last = total + count, place
    last = None
    for row in value[1]:
        if type(row) is not tuple or len(row) != 3 or not all(map(is_integer, row)):
            return None
        start, stop, count = row
        if start >= stop or (last is not None and start < last):
            return None
        last = stop
        within = [min(0, shift) <= edge < max(0, shift) for edge in range(start, stop)]
        right = start >= 0 and any(exponent >= stop for exponent, _ in polynomial)
        left = stop <= 0 and any(exponent <= start for exponent, _ in polynomial)
        if not (count == 1 and all(within)) and not (count == 2 and not any(within) and (right or left)):
            return None
        total += count * (stop - start)
    return total


class LengthCertificateTest(unittest.TestCase):
    def test_entries_are_justified_and_sum_to_the_length(self):
        for prime in PRIMES:
            for one in some_effects(prime):
                found = length_certificate(prime, one)
                self.assertEqual([type(found)] + [type(part) for part in found], [tuple, list, list])
                size = length(prime, one)
                self.assertIs(certifies_length(prime, one, size, found), True)
                self.assertIs(certifies_length(prime, one, size + 1, found), False)
                if size < 10000:
                    self.assertEqual(plain_sum(prime, one, found), size)

    def test_all_effects_of_a_search(self):
        for prime, found in LAYERS.items():
            for size, layer in enumerate(found):
                for one in layer:
                    self.assertEqual(plain_sum(prime, one, length_certificate(prime, one)), size)

    def test_the_identity(self):
        self.assertEqual(length_certificate(2, IDENTITY), ([], []))

    def test_far_effects_entry_by_entry(self):
        found = length_certificate(5, (((-FAR, 3), (7, 1), (FAR, 2)), 7))
        self.assertEqual(sum(count for _, count in found[0]), 5)
        self.assertEqual(sum((stop - start) * count for start, stop, count in found[1]), 4 * FAR - 7)


class CertifiesLengthTest(unittest.TestCase):
    ONE = (((-1, 2), (2, 4)), 1)
    GOOD = ([(-1, 2), (2, 1)], [(-1, 0, 2), (0, 1, 1), (1, 2, 2)])

    def check(self, prime, one, value):
        expected = plain_sum(prime, one, value)
        if expected is None:
            for bound in (-FAR, -1, 0, 1, 5):
                self.assertIs(certifies_length(prime, one, bound, value), False, (one, value))
        else:
            for bound in (-FAR, expected - 1, expected, expected + 1, FAR):
                self.assertIs(certifies_length(prime, one, bound, value), bound <= expected, (one, value))
        return expected

    def test_values_of_every_kind(self):
        for value in OTHER_VALUES + ((), ((),), ((), ()), ([],), ([], [], []), ([], ()), ((), []), [[], []], ({}, [])):
            self.assertIsNone(self.check(5, self.ONE, value), value)
        for part in OTHER_VALUES:
            if part != []:
                self.assertIsNone(self.check(5, self.ONE, (part, [])), part)
                self.assertIsNone(self.check(5, self.ONE, ([], part)), part)
            self.assertIsNone(self.check(5, self.ONE, ([part], [])), part)
            self.assertIsNone(self.check(5, self.ONE, ([], [part])), part)
            rows = [([row], []) for row in ((part, 1), (2, part))]
            rows += [([], [row]) for row in ((part, 1, 1), (0, part, 1), (0, 1, part))]
            for value in rows:
                if type(part) is not int:
                    self.assertIsNone(self.check(5, self.ONE, value), value)
                elif abs(part) > 9:
                    self.assertIs(certifies_length(5, self.ONE, 0, value), False, value)
                else:
                    self.check(5, self.ONE, value)

    def test_bounds(self):
        for bound in (-FAR, -1, 0, 7, 8):
            self.assertIs(certifies_length(5, self.ONE, bound, self.GOOD), True)
        for bound in (9, 10, FAR):
            self.assertIs(certifies_length(5, self.ONE, bound, self.GOOD), False)
        self.assertIs(certifies_length(5, self.ONE, 0, ([], [])), True)
        self.assertIs(certifies_length(5, self.ONE, 1, ([], [])), False)
        self.assertIs(certifies_length(2, IDENTITY, 0, ([], [])), True)

    def test_one_number_changed(self):
        for prime, one in ((5, self.ONE), (5, (((-3, 1), (0, 2), (4, 3)), -2)), (3, (((2, 1), (5, 2)), 0)),
                           (97, (((-4, 50), (-2, 48)), 3)), (2, ((), 4)), (2, (((-2, 1), (3, 1)), 0))):
            good = length_certificate(prime, one)
            for part in (0, 1):
                for at, row in enumerate(good[part]):
                    for index in range(len(row)):
                        for change in (-5, -3, -2, -1, 1, 2, 3, 5):
                            changed = (*row[:index], row[index] + change, *row[index + 1:])
                            rows = good[part][:at] + [changed] + good[part][at + 1:]
                            self.check(prime, one, (rows, good[1]) if part == 0 else (good[0], rows))

    def test_one_part_changed(self):
        turns, stretches = self.GOOD
        for value in (
            (tuple(turns), stretches), (turns, tuple(stretches)), [turns, stretches], (turns, stretches, []), (turns,),
            ([list(turns[0]), turns[1]], stretches), (turns, [list(stretches[0])] + stretches[1:]), (stretches, turns),
            ([(-1, 2, 0), (2, 1)], stretches), ([(-1,), (2, 1)], stretches), (turns, stretches + [()]),
            (turns[::-1], stretches), (turns, stretches[::-1]), (turns[:1] * 2, stretches), (turns, stretches[:1] * 2),
            ([(-1, True), (2, 1)], stretches), ([(-1, 2), (2, True)], stretches), (turns, [(False, True, True)]),
            (turns, [(0, 1, True)]), (turns, [(False, 1, 1)]), (turns, [(0, True, 1)]), (turns, [(-1, False, 2)]),
            ([(-1, 2), (2, 2)], stretches), ([(-1, 3), (2, 1)], stretches), ([(-1, 0), (2, 1)], stretches),
            ([(-1, -1), (2, 1)], stretches), ([(0, 1)], stretches), ([(-2, 1)], []), ([("2", 1)], []),
            ([(2, None)], []),
            ([], [(0, 1, 2)]), ([], [(-1, 0, 1)]), ([], [(1, 2, 1)]), ([], [(0, 2, 1)]), ([], [(-1, 1, 1)]),
            ([], [(-1, 1, 2)]), ([], [(0, 2, 2)]), ([], [(1, 3, 2)]), ([], [(-2, 0, 2)]), ([], [(2, 2, 2)]),
            ([], [(0, 0, 1)]), ([], [(1, 0, 1)]), ([], [(0, 1, 0)]), ([], [(0, 1, 3)]), ([], [(0, 1, -1)]),
            ([], [(5, 6, 2)]),
        ):
            self.assertIsNone(self.check(5, self.ONE, value), value)

    def test_certificates_that_are_smaller(self):
        for value, total in (
            (([(-1, 1)], []), 1), (([(2, 1)], [(0, 1, 1)]), 2), (([], [(-1, 0, 2), (1, 2, 2)]), 4),
            (([(-1, 2), (2, 1)], []), 3),
        ):
            self.assertEqual(self.check(5, self.ONE, value), total)

    def test_stretches_over_0(self):
        one = (((-3, 1), (3, 1)), 0)
        self.assertEqual(self.check(2, one, ([], [(-3, 0, 2), (0, 3, 2)])), 12)
        self.assertEqual(self.check(2, one, ([], [(-3, -1, 2), (-1, 0, 2), (0, 1, 2), (2, 3, 2)])), 10)
        for row in ((-1, 1, 2), (-3, 3, 2), (-1, 3, 2), (-3, 1, 2), (-1, 1, 1), (0, 1, 1), (0, 4, 2), (-4, 0, 2)):
            self.assertIsNone(self.check(2, one, ([], [row])))

    def test_all_small_stretches(self):
        for one in (
            (((-2, 1), (3, 1)), 1), (((-2, 1), (3, 1)), -1), (((-2, 1), (3, 1)), 0), (((2, 1),), 3), (((2, 1),), -3),
            (((-2, 1),), 3), (((-2, 1),), -3), (((1, 1),), 2), ((), 2), ((), -2), ((), 0), (((0, 1),), 0),
        ):
            for start in range(-5, 6):
                for stop in range(-5, 6):
                    for count in (0, 1, 2, 3):
                        self.check(2, one, ([], [(start, stop, count)]))

    def test_random_certificates(self):
        source = Random(7)
        held = 0
        for _ in range(6000):
            polynomial = source.choice(all_polynomials(3, -1, 2))
            one = (polynomial, source.randint(-2, 2))
            turns = [(source.randint(-1, 2), 1) for _ in range(source.randint(0, 2))]
            starts = [source.randint(-2, 2) for _ in range(source.randint(0, 3))]
            stretches = [(start, start + source.randint(1, 2), source.randint(1, 2)) for start in sorted(starts)]
            held += self.check(3, one, (turns, stretches)) is not None
        self.assertGreater(held, 500)

    def test_far_stretches(self):
        one = (((-FAR, 1), (FAR, 1)), 5)
        value = ([(FAR, 1)], [(-FAR, -7, 2), (-7, 0, 2), (0, 5, 1), (5, FAR, 2)])
        self.assertIs(certifies_length(2, one, 4 * FAR - 4, value), True)
        self.assertIs(certifies_length(2, one, 4 * FAR - 3, value), False)
        self.assertIs(certifies_length(2, one, 0, ([], [(5, FAR + 1, 2)])), False)
        self.assertIs(certifies_length(2, one, 0, ([], [(-10 ** 99, 10 ** 99, 2)])), False)


def searched_depth(prime, one):
    """How many unit instructions lead to a longer effect, found by trying all of them."""
    size = length(prime, one)
    reached, depth = {one}, 0
    while all(length(prime, other) <= size for other in reached):
        reached = {followed(prime, other, unit) for other in reached for unit in UNITS}
        depth += 1
    return depth


class DeadEndTest(unittest.TestCase):
    def test_against_a_search_for_small_effects(self):
        for prime, found in LAYERS.items():
            for layer in found[:10]:
                for one in layer:
                    self.assertEqual(dead_end_depth(prime, one), searched_depth(prime, one), (prime, one))

    def test_against_a_search_for_effects_around_0(self):
        for prime, reach in ((2, 3), (3, 2)):
            for polynomial in all_polynomials(prime, -reach, reach):
                one = (polynomial, 0)
                self.assertEqual(dead_end_depth(prime, one), searched_depth(prime, one), (prime, one))
        full = {5: (2, 3), 7: (3, 4), 97: (48, 49)}
        for prime, (one, other) in full.items():
            less = one - 1
            for row in ((one, other, one), (1, one, 1), (one, less, one), (0, one, other), (one, one, 1), (0, one, 0)):
                wide = [tuple((at, value) for at, value in zip(range(-1, 2), row) if value)]
                wide.append(((-2, 1),) + wide[0] + ((3, 1),))
                for polynomial in wide:
                    self.assertEqual(dead_end_depth(prime, (polynomial, 0)), searched_depth(prime, (polynomial, 0)))

    def test_depths(self):
        def around(low, high, value=1):
            return tuple((at, value) for at in range(low, high + 1))

        for prime, one, depth in (
            (2, IDENTITY, 1), (2, (((0, 1),), 0), 1), (2, (around(-1, 1), 0), 3), (2, (around(-2, 2), 0), 5),
            (2, (around(-1, 9), 0), 3), (2, (around(-9, 2), 0), 5), (2, (around(-50, 50), 0), 101),
            (2, (around(-50, 50), 1), 1), (2, (around(-50, 50), -1), 1), (2, (around(0, 50), 0), 1),
            (2, (around(-50, 0), 0), 1), (97, (around(-3, 3, 48), 0), 7), (97, (around(-3, 3, 49), 0), 7),
            (97, (around(-3, 3, 47), 0), 1), (3, (around(-3, 3, 2), 0), 7), (5, (around(-3, 3, 1), 0), 1),
            (2, (((-FAR, 1), (0, 1), (FAR, 1)), 0), 3), (2, (((-FAR, 1), (FAR, 1)), 0), 1),
            (2, (((-FAR, 1),) + around(-9, 5) + ((FAR, 1),), 0), 13), (2, (((-1, 1), (0, 1), (FAR, 1)), 0), 3),
            (2, (((-FAR, 1),) + around(-199, 198) + ((FAR, 1),), 0), 399), (2, ((), FAR), 1),
            (97, (((-2, 1),) + around(-1, 1, 48) + ((2, 1),), 0), 5), (97, (((-2, 1), (0, 48), (2, 1)), 0), 3),
        ):
            self.assertEqual(dead_end_depth(prime, one), depth, one)


class CountEffectsTest(unittest.TestCase):
    def test_against_a_search_for_small_sizes(self):
        for prime, found in LAYERS.items():
            for size, layer in enumerate(found):
                self.assertEqual(count_effects(prime, size), len(layer), (prime, size))

    def test_sizes_0_and_1(self):
        for prime in PRIMES:
            self.assertEqual(count_effects(prime, 0), 1)
            self.assertEqual(count_effects(prime, 1), 3 if prime == 2 else 4)

    def test_against_a_count_place_by_place(self):
        for prime in (2, 3, 5, 97):
            for size in (20, 59, 60, 61):
                self.assertEqual(count_effects(prime, size), plain_count(prime, size))


def plain_count(prime, size):
    """How many effects have this length: for each walk, the ways to share out the turns over its places."""
    costs = [min(value, prime - value) for value in range(prime)]
    total = 0
    for shift in range(-size, size + 1):
        for left in range(size // 2 + 1):
            for right in range(size // 2 + 1):
                turns = size - abs(shift) - 2 * left - 2 * right
                if turns >= 0:
                    ends = (left > 0) + (right > 0)
                    total += shared(tuple(costs), turns, abs(shift) + 1 + left + right, ends)
    return total


SHARED = {}


def shared(costs, turns, places, ends):
    """In how many ways the values of some places take so many turns, of which the last ones, ends, are not 0."""
    key = (len(costs), turns, places, ends)
    if key not in SHARED:
        if places == 0:
            SHARED[key] = int(turns == 0)
        else:
            allowed = costs[1:] if ends else costs
            SHARED[key] = sum(shared(costs, turns - cost, places - 1, max(ends - 1, 0))
                              for cost in allowed if cost <= turns)
    return SHARED[key]


if __name__ == "__main__":
    unittest.main()
