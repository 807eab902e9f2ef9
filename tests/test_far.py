"""Points 15 and 16: dials after runs of any length, the first difference of two programs, and the extent."""

import time
import unittest
from random import Random

from dialroad.far import extent, first_difference, value_at
from dialroad.programs import is_program, shift_of
from tests.samples import FAR, PRIMES, PROGRAMS_AT_THE_BOUNDS, program, ran, repeats, with_tuples

COUNTS = (0, 1, 2, 3, 7, 50, 10 ** 6, FAR - 1, FAR)
STRIDES = (0, 1, -1, 2, -3, 6, -6, 35, 10 ** 9 + 7, FAR, -FAR, FAR - 1)


def row_of(count, stride, turn=1):
    """A repeat that turns a dial and moves on by a stride."""
    return ("repeat", count, [("turn", turn), ("step", stride)])


def sheet_of(count, stride, number, pace, turn=1):
    """A repeat of a repeat: turns at j * stride + k * pace for j below count and k below number."""
    return ("repeat", count, [row_of(number, pace, turn), walk(number, -pace), ("step", stride)])


def walk(count, stride):
    """A repeat that only moves, by more than one step may."""
    return ("repeat", count, [("step", stride)])


def plain_sheet(prime, place, count, stride, number, pace):
    """The value of a sheet, counted over all j; count must be small."""
    total = 0
    for j in range(count):
        left = place - j * stride
        if pace == 0:
            total += number if left == 0 else 0
        elif left % pace == 0 and 0 <= left // pace < number:
            total += 1
    return total % prime


class ValueAtTest(unittest.TestCase):
    def test_against_a_run_step_by_step(self):
        for prime in PRIMES:
            for seed in range(80):
                one = program(seed)
                dials, _ = ran(prime, one)
                reached = max([abs(place) for place in dials], default=0) + 3
                for place in range(-reached, reached + 1):
                    self.assertEqual(value_at(prime, one, place), dials.get(place, 0), (one, place))

    def test_tuples_in_programs(self):
        for seed in range(30):
            one = program(seed)
            for place in range(-9, 10):
                self.assertEqual(value_at(5, with_tuples(one), place), value_at(5, one, place))

    def test_one_repeat(self):
        for count in COUNTS:
            for stride in STRIDES:
                for at in (-1, 0, 1, count // 2, count - 1, count):
                    for rest in (0, 1):
                        place = at * stride + rest
                        found = value_at(97, [row_of(count, stride)], place)
                        self.assertEqual(found, plain_sheet(97, place, 1, 0, count, stride), (count, stride, place))

    def test_one_repeat_inside_another(self):
        for count in (0, 1, 2, 7, 12):
            for stride in STRIDES:
                for number in COUNTS:
                    for pace in STRIDES:
                        self.check_sheet(count, stride, number, pace)

    def check_sheet(self, count, stride, number, pace):
        one = [sheet_of(count, stride, number, pace)]
        self.assertTrue(is_program(one))
        for at in (0, count // 2, count - 1):
            for to in (-1, 0, number // 2, number - 1, number):
                place = at * stride + to * pace
                expected = plain_sheet(7, place, count, stride, number, pace)
                self.assertEqual(value_at(7, one, place), expected, (one, place))

    def test_both_counts_large(self):
        # The dial at x is turned once for each j and k with 2 * j + 3 * k == x: all j that leave the rest of -x
        # modulo 3, as long as both are in their bounds.
        one = [sheet_of(FAR, 2, FAR, 3)]
        for place in (0, 1, 2, 5, 6, 7, 10 ** 20, 10 ** 29 + 1, 2 * FAR - 2, 2 * FAR - 1):
            pairs = (place // 2 - -place % 3) // 3 + 1
            self.assertEqual(value_at(97, one, place), pairs % 97, place)
            self.assertEqual(value_at(97, one, 5 * (FAR - 1) - place), pairs % 97, place)
        self.assertEqual(value_at(97, one, -1), 0)
        self.assertEqual(value_at(97, one, 5 * FAR - 4), 0)

    def test_equal_and_opposite_strides(self):
        for place in (0, 1, 5, 10 ** 25, FAR - 1, FAR, 2 * FAR - 2, 2 * FAR - 1, -1):
            pairs = max(0, min(place + 1, 2 * FAR - 1 - place))
            self.assertEqual(value_at(89, [sheet_of(FAR, 1, FAR, 1)], place), pairs % 89)
            self.assertEqual(value_at(89, [sheet_of(FAR, -1, FAR, -1)], -place), pairs % 89)
            self.assertEqual(value_at(89, [sheet_of(FAR, 1, FAR, -1)], place - FAR + 1), pairs % 89)

    def test_stride_0(self):
        self.assertEqual(value_at(97, [("repeat", FAR, [("turn", 5)])], 0), 5 * FAR % 97)
        self.assertEqual(value_at(97, [("repeat", FAR, [("turn", 5)])], 1), 0)
        self.assertEqual(value_at(97, repeats(FAR, FAR, body=[("turn", -FAR)]), 0), -FAR ** 3 % 97)
        self.assertEqual(value_at(97, [sheet_of(FAR - 1, 0, FAR, 3)], 3 * FAR - 3), (FAR - 1) % 97)
        self.assertEqual(value_at(97, [sheet_of(FAR, 3, FAR - 1, 0)], 3 * FAR - 3), (FAR - 1) % 97)

    def test_far_from_everything(self):
        for one in PROGRAMS_AT_THE_BOUNDS:
            for place in (-10 ** 95, 10 ** 95, FAR ** 3 + 1, -FAR ** 3 - 1):
                self.assertEqual(value_at(5, one, place), 0)

    def test_offsets_before_and_inside_repeats(self):
        one = [("step", -FAR), ("turn", 3), ("repeat", FAR, [("step", 1), ("turn", 2), ("step", 1)]), ("turn", 1)]
        self.assertEqual([value_at(5, one, at - FAR) for at in range(5)], [3, 2, 0, 2, 0])
        self.assertEqual([value_at(5, one, at + FAR) for at in range(-3, 3)], [2, 0, 2, 1, 0, 0])

    def test_somewhat_beyond_the_bounds(self):
        for one in (
            repeats(3, 2, 4, body=[("turn", 1), ("step", 3), ("turn", 2), ("step", -1)]),
            [("repeat", 3, repeats(2, 3, 2, body=[("turn", 1), ("step", 2)]) + [("step", -5), ("turn", 1)])],
            [row_of(3, k - 4) for k in range(9)], [("turn", 1), ("step", 1)] * 70,
        ):
            dials, _ = ran(7, one)
            for place in range(min(dials) - 2, max(dials) + 3):
                self.assertEqual(value_at(7, one, place), dials.get(place, 0))
        self.assertEqual(value_at(7, [row_of(10 ** 40, 10 ** 40, 10 ** 40)], 10 ** 79), 10 ** 40 % 7)


class FirstDifferenceTest(unittest.TestCase):
    def check(self, prime, one, other):
        found = first_difference(prime, one, other)
        dials, place = ran(prime, one)
        values, end = ran(prime, other)
        differ = [at for at in sorted(set(dials) | set(values)) if dials.get(at, 0) != values.get(at, 0)]
        if differ:
            self.assertEqual(found, ("dial", differ[0], dials.get(differ[0], 0), values.get(differ[0], 0)))
        elif place != end:
            self.assertEqual(found, ("shift", place, end))
        else:
            self.assertIsNone(found)

    def test_against_runs_step_by_step(self):
        for prime in (2, 3, 97):
            for seed in range(60):
                for other in range(seed, seed + 8):
                    self.check(prime, program(seed), program(other))

    def test_small_programs_that_often_agree(self):
        for prime in (2, 3):
            some = [program(seed, longest=2, most=3, farthest=1) for seed in range(40)]
            for one in some:
                for other in some:
                    self.check(prime, one, other)

    def test_the_same_effect_written_differently(self):
        half = FAR // 2
        for one, other in (
            ([row_of(FAR, 3)], [row_of(half, 3), row_of(half, 3)]),
            ([row_of(FAR, 3)], [("repeat", half, [("turn", 1), ("step", 3), ("turn", 1), ("step", 3)])]),
            ([row_of(FAR, 3)], repeats(half, 2, body=[("turn", 1), ("step", 3)])),
            ([row_of(FAR, 3)], repeats(2, half, body=[("turn", 1), ("step", 3)])),
            ([row_of(FAR, -3)], repeats(10 ** 10, 10 ** 20, body=[("turn", 1), ("step", -3)])),
            ([row_of(FAR, 3), ("step", -3)], [walk(FAR, 3), ("step", -3), row_of(FAR, -3), walk(FAR, 3)]),
            ([row_of(FAR, 2), walk(FAR, -2), ("step", 1), row_of(FAR, 2), ("step", -1)], [row_of(FAR, 1)] * 2),
            ([sheet_of(FAR, 5, FAR, 7), walk(FAR, -5)], [sheet_of(FAR, 7, FAR, 5), walk(FAR, -7)]),
            ([sheet_of(FAR, 6, FAR, -6), walk(FAR, -6)], [sheet_of(FAR, -6, FAR, 6), walk(FAR, 6)]),
            ([sheet_of(FAR, 0, FAR, 2)], [row_of(FAR, 2, FAR), walk(FAR, -2)]),
            ([sheet_of(FAR, 2, FAR, 0)], [row_of(FAR, 2, FAR)]),
            ([sheet_of(FAR, 4, 2, 2), walk(FAR, -2)], [row_of(FAR, 2), row_of(FAR, 2), walk(FAR, -2)]),
            ([("repeat", FAR, [("turn", 97), ("step", 1)])], [walk(FAR, 1)]),
            ([row_of(FAR, 1), ("step", -1), row_of(FAR, -1, -1), ("step", 1)], []),
            ([("repeat", 0, [row_of(FAR, 1)])], [("repeat", FAR, [])]),
        ):
            self.assertTrue(is_program(one) and is_program(other), (one, other))
            self.assertIsNone(first_difference(97, one, other), (one, other))
            self.assertIsNone(first_difference(97, with_tuples(other), one), (one, other))
            shift = shift_of(one)
            self.assertEqual(first_difference(97, one, other + [("step", 1)]), ("shift", shift, shift + 1))

    def test_one_dial_only(self):
        one = [sheet_of(FAR, 5, FAR, -7)]
        home = walk(FAR, -5)
        for place in (0, 1, -1, 5, -7, FAR, -FAR, 10 ** 29 - 3, 12345678901234567890):
            for turn in (1, 2, 4):
                other = one + [home, ("step", place), ("turn", turn), ("step", -place), walk(FAR, 5)]
                self.assertTrue(is_program(other))
                value = value_at(5, one, place)
                self.assertEqual(first_difference(5, one, other), ("dial", place, value, (value + turn) % 5))
                self.assertEqual(first_difference(5, other, one), ("dial", place, (value + turn) % 5, value))
            other = one + [home, ("step", place), ("turn", 5), ("step", -place), walk(FAR, 5)]
            self.assertIsNone(first_difference(5, one, other))

    def test_the_last_dial_of_many(self):
        one, other = [row_of(FAR, 1)], [row_of(FAR - 1, 1), ("step", 1)]
        self.assertEqual(first_difference(3, one, other), ("dial", FAR - 1, 1, 0))
        self.assertEqual(first_difference(3, other, one), ("dial", FAR - 1, 0, 1))
        one, other = [row_of(FAR, -1)], [row_of(FAR - 1, -1), ("step", -1)]
        self.assertEqual(first_difference(3, one, other), ("dial", 1 - FAR, 1, 0))

    def test_the_shift_only(self):
        for one, other in (([("step", 2)], [("step", -3)]), ([], [("step", FAR)]), (repeats(FAR, FAR), [])):
            self.assertEqual(first_difference(2, one, other), ("shift", shift_of(one), shift_of(other)))
        one = [row_of(FAR, 2)]
        self.assertEqual(first_difference(2, one, one + [("step", 1)]), ("shift", 2 * FAR, 2 * FAR + 1))

    def test_a_dial_comes_before_the_shift(self):
        self.assertEqual(first_difference(2, [("turn", 1), ("step", 1)], []), ("dial", 0, 1, 0))

    def test_each_program_equals_itself(self):
        for one in PROGRAMS_AT_THE_BOUNDS:
            for prime in (2, 97):
                self.assertIsNone(first_difference(prime, one, one))
                self.assertIsNone(first_difference(prime, with_tuples(one), one))

    def test_the_prime_decides(self):
        one, other = [("repeat", FAR, [("turn", 2), ("step", 1)])], [("step", FAR)]
        self.assertIsNone(first_difference(2, one, other))
        self.assertEqual(first_difference(3, one, other), ("dial", 0, 2, 0))

    def test_somewhat_beyond_the_bounds(self):
        one = repeats(2, 3, 2, body=[("turn", 1), ("step", 2)])
        self.assertIsNone(first_difference(5, one, [row_of(12, 2)]))
        self.check(5, one, [row_of(13, 2)])
        self.check(5, [row_of(2, k) for k in range(-3, 4)], [row_of(2, k) for k in range(-3, 3)])


class ExtentTest(unittest.TestCase):
    def test_against_a_run_step_by_step(self):
        for prime in PRIMES:
            for seed in range(150):
                one = program(seed)
                places = sorted(ran(prime, one)[0])
                self.assertEqual(extent(prime, one), (places[0], places[-1]) if places else None, one)

    def test_all_dials_at_0(self):
        for one in (
            [], (), [("step", FAR)], [("turn", 97)], repeats(97, body=[("turn", 1)]), repeats(FAR, FAR, body=()),
            repeats(0, body=[("turn", 1)]), repeats(FAR, FAR, body=[("turn", 97 * 5), ("step", 3)]),
            [row_of(FAR, 3), ("step", -3), ("repeat", FAR, [("turn", -1), ("step", -3)])],
            [("repeat", FAR, [row_of(97, 0), ("step", 1)])],
            [row_of(FAR, 1), ("step", -FAR), row_of(FAR // 2, 2, -1), ("step", 1 - FAR), row_of(FAR // 2, 2, -1)],
        ):
            self.assertTrue(is_program(one), one)
            self.assertIsNone(extent(97, one), one)

    def test_largest_counts(self):
        last = FAR - 1
        for stride in (1, -1, 2, 7, FAR, -FAR):
            low, high = sorted((0, last * stride))
            self.assertEqual(extent(2, [row_of(FAR, stride)]), (low, high))
            for pace in (1, -1, 7, 6, FAR // 2):
                ends = [j * stride + k * pace for j in (0, last) for k in (0, last)]
                self.assertEqual(extent(97, [sheet_of(FAR, stride, FAR, pace)]), (min(ends), max(ends)))
        self.assertEqual(extent(97, repeats(FAR, FAR, body=[("turn", 1), ("step", FAR)])), (0, FAR * (FAR * FAR - 1)))
        self.assertEqual(extent(97, repeats(FAR, FAR, body=[("step", -1), ("turn", 1)])), (-FAR * FAR, -1))

    def test_ends_that_cancel(self):
        # Both rows begin and end together, and only what the last turn adds stays.
        one = [row_of(FAR, 2), walk(FAR, -2), row_of(FAR, 2, -1), ("step", -FAR), ("turn", 1)]
        self.assertEqual(extent(5, one), (FAR, FAR))
        one = [row_of(FAR, 2), walk(FAR, -2), ("turn", -1), walk(FAR, 2), ("step", -2), ("turn", -1)]
        self.assertEqual(extent(5, one), (2, 2 * FAR - 4))

    def test_turns_beside_a_repeat(self):
        one = [("step", -9), ("turn", 1), ("step", 9), row_of(FAR, 1), ("step", 100), ("turn", 2)]
        self.assertEqual(extent(3, one), (-9, FAR + 100))

    def test_stride_0(self):
        self.assertEqual(extent(7, [("step", 4), ("repeat", FAR, [("turn", 1)])]), (4, 4))
        self.assertEqual(extent(7, [("repeat", FAR, [("turn", 1), ("step", 2), ("turn", 1), ("step", -2)])]), (0, 2))
        self.assertIsNone(extent(2, [("repeat", FAR, [("turn", 1)])]))

    def test_the_extent_is_where_the_values_end(self):
        source = Random(5)
        for _ in range(40):
            numbers = [source.randint(1, 50), source.randint(-9, 9), source.randint(1, 50), source.randint(-9, 9)]
            rows = [row_of(source.randint(1, 99), source.randint(-9, 9), source.randint(1, 9)) for _ in range(2)]
            one = [sheet_of(*numbers)] + rows
            places = sorted(ran(3, one)[0])
            self.assertEqual(extent(3, one), (places[0], places[-1]) if places else None, one)

    def test_somewhat_beyond_the_bounds(self):
        self.assertEqual(extent(5, repeats(FAR, FAR, FAR, body=[("turn", 1), ("step", 1)])), (0, FAR ** 3 - 1))
        self.assertEqual(extent(5, [row_of(3, k) for k in range(1, 8)]), (0, 3 * 28 - 7))


class QuicknessTest(unittest.TestCase):
    def long_program(self, seed):
        """A program of 100 instructions, 4 repeats inside a fifth one, with counts of up to 10 ** 30."""
        source = Random(seed)

        def rows(many):
            return [("step" if k % 2 else "turn", source.randint(-FAR, FAR)) for k in range(many)]

        inner = [("repeat", source.randint(FAR // 2, FAR), rows(12)) for _ in range(4)]
        return [("repeat", source.randint(FAR // 2, FAR), inner + rows(47))]

    def test_the_largest_programs(self):
        one, other = self.long_program(1), self.long_program(2)
        self.assertTrue(is_program(one) and is_program(other))
        begun = time.monotonic()
        for prime in (2, 97):
            least, greatest = extent(prime, one)
            self.assertNotEqual(value_at(prime, one, least), 0)
            self.assertNotEqual(value_at(prime, one, greatest), 0)
            self.assertEqual((value_at(prime, one, least - 1), value_at(prime, one, greatest + 1)), (0, 0))
            word, place, value, another = first_difference(prime, one, other)
            self.assertEqual(word, "dial")
            self.assertEqual((value_at(prime, one, place), value_at(prime, other, place)), (value, another))
            self.assertEqual(place, min(least, extent(prime, other)[0]))
        # Far above what it takes, and far below any run.
        self.assertLess(time.monotonic() - begun, 30)


if __name__ == "__main__":
    unittest.main()
