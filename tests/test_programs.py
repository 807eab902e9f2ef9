"""Points 13 and 14: programs, what a run executes, and its effect."""

import unittest

from dialroad.errors import TooLong
from dialroad.programs import effect_of, executed, is_program, shift_of
from tests.samples import FAR, OTHER_VALUES, PRIMES, PROGRAMS_AT_THE_BOUNDS
from tests.samples import program, ran, repeats, valid_programs, with_lists, with_tuples

STEP = ("step", 1)


class IsProgramTest(unittest.TestCase):
    def test_programs_at_the_bounds_and_within(self):
        for one in valid_programs():
            self.assertIs(is_program(one), True, one)
            self.assertIs(is_program(with_lists(one)), True, one)
            self.assertIs(is_program(with_tuples(one)), True, one)

    def test_values_of_every_kind(self):
        for value in OTHER_VALUES:
            self.assertIs(is_program(value), value == [], value)
        for value in ("step 1", ("step", 1), ["step", 1], {"step": 1}, {("step", 1): 1}, [{}], [()], ((),), 10 ** 99):
            self.assertIs(is_program(value), False, value)

    def test_depth(self):
        for body in ((), [STEP]):
            self.assertIs(is_program(repeats(1, 1, body=body)), True)
            self.assertIs(is_program(repeats(1, 1, 1, body=body)), False)
            self.assertIs(is_program(repeats(0, 0, 0, body=body)), False)
            self.assertIs(is_program([STEP] + repeats(2, body=body) + repeats(1, 1, 1, body=body)), False)
        self.assertIs(is_program(repeats(*[1] * 5)), False)
        self.assertIs(is_program(repeats(*[1] * 5000)), False)

    def test_number_of_repeats(self):
        for one in ([("repeat", 0, [])], [("repeat", 1, [STEP])]):
            self.assertIs(is_program(one * 5), True)
            self.assertIs(is_program(one * 6), False)
            self.assertIs(is_program([("repeat", 1, one * 4)]), True)
            self.assertIs(is_program([("repeat", 1, one * 5)]), False)
            self.assertIs(is_program([("repeat", 1, one * 2), ("repeat", 1, one)]), True)
            self.assertIs(is_program([("repeat", 1, one * 2), ("repeat", 1, one * 2)]), False)
            self.assertIs(is_program([("repeat", 1, one * 4)] + one), False)

    def test_number_of_instructions(self):
        for many in (100, 101, 102, 400):
            valid = many == 100
            self.assertIs(is_program([STEP] * many), valid)
            self.assertIs(is_program([("turn", 0)] * many), valid)
            self.assertIs(is_program([("repeat", 1, [STEP] * (many - 1))]), valid)
            self.assertIs(is_program(repeats(1, 1, body=[STEP] * (many - 2))), valid)
            self.assertIs(is_program([STEP] * (many - 1) + [("repeat", 0, [])]), valid)
            self.assertIs(is_program([("repeat", 0, [STEP] * 48)] + [STEP] * (many - 49)), valid)
            self.assertIs(is_program([("repeat", 0, [("repeat", 0, [STEP] * 40), STEP])] + [STEP] * (many - 43)), valid)

    def test_values_far_beyond_the_bounds_are_given_up_early(self):
        wide = [STEP] * 400
        for _ in range(2):
            wide = [("repeat", 1, wide)] * 400
        self.assertIs(is_program(wide), False)

    def test_counts(self):
        for count in (0, 1, -1, FAR, -FAR):
            self.assertIs(is_program([("step", count)]), True)
            self.assertIs(is_program([("turn", count)]), True)
            self.assertIs(is_program([("repeat", count, [])]), count >= 0)
            self.assertIs(is_program(repeats(1, count)), count >= 0)
        for count in (FAR + 1, -FAR - 1, 10 ** 99, -10 ** 99):
            for one in (("step", count), ("turn", count), ("repeat", count, [])):
                self.assertIs(is_program([one]), False)
                self.assertIs(is_program([("repeat", 1, [one])]), False)
                self.assertIs(is_program(repeats(0, 0, body=[one])), False)

    def test_counts_of_other_kinds(self):
        for count in (None, True, False, "1", "", (), (1,), [1], [], {}, {1: 1}):
            for one in (("step", count), ("turn", count), ("repeat", count, [])):
                self.assertIs(is_program([one]), False, one)
                self.assertIs(is_program([("repeat", 2, [one])]), False, one)

    def test_instructions_of_other_kinds(self):
        for one in (
            None, True, 1, "step", "", [], (), {}, ["step", 1], ["turn", 1], ["repeat", 1, []], {"step": 1},
            ("step",), ("turn",), ("repeat",), ("repeat", 1), ("step", 1, 1), ("turn", 1, 1), ("step", 1, []),
            ("turn", 1, []), ("repeat", 1, [], []), ("repeat", [], 1), (1, "step"), (("step", 1),), ("jump", 2),
            ("Step", 1), ("step ", 1), (" turn", 1), ("", 1), (None, 1), (True, 1), (["step"], 1), ({}, 1),
            ("jump", 1, []), ("repeats", 1, []), ("STEP", 1), ("s", "t"), ("turn", "repeat"), (["repeat"], 1, []),
            ("step\n", 1),
        ):
            self.assertIs(is_program([one]), False, one)
            self.assertIs(is_program((STEP, one)), False, one)
            self.assertIs(is_program([("repeat", 1, [one])]), False, one)
            self.assertIs(is_program(repeats(1, 1, body=[one])), False, one)

    def test_inner_programs_of_other_kinds(self):
        for inner in (None, True, 0, 1, "", "step 1", {}, {"step": 1}, STEP, ("repeat", 1, []), ["step", 1], [[]]):
            self.assertIs(is_program([("repeat", 1, inner)]), False, inner)
            self.assertIs(is_program(repeats(1, body=[("repeat", 0, inner)])), False, inner)

    def test_lists_and_tuples_at_each_level(self):
        for outer in (list, tuple):
            for middle in (list, tuple):
                for inner in (list, tuple):
                    one = outer([("repeat", 2, middle([("repeat", 3, inner([STEP])), STEP])), STEP])
                    self.assertIs(is_program(one), True)
                    wrong = outer([("repeat", 2, middle([["repeat", 3, inner([STEP])], STEP])), STEP])
                    self.assertIs(is_program(wrong), False)


class ShiftAndExecutedTest(unittest.TestCase):
    def test_against_a_run_step_by_step(self):
        for seed in range(200):
            one = program(seed)
            self.assertEqual(shift_of(one), ran(5, one)[1])
            self.assertEqual(shift_of(with_tuples(one)), ran(5, one)[1])
            self.assertEqual(executed(one), count_of_instructions(one))

    def test_empty_programs(self):
        for one in ([], (), repeats(5, body=()), repeats(FAR, FAR, body=()), repeats(0, FAR), repeats(FAR, 0)):
            self.assertEqual((shift_of(one), executed(one)), (0, 0))

    def test_counts_of_0_are_executed(self):
        self.assertEqual(executed([("step", 0), ("turn", 0), ("repeat", 3, [("step", 0)])]), 5)

    def test_largest_counts(self):
        one = [("step", 7), ("repeat", FAR, [("repeat", FAR, [("step", -FAR), ("turn", 1)]), ("step", FAR)])]
        self.assertEqual(shift_of(one), 7 - FAR ** 3 + FAR ** 2)
        self.assertEqual(executed(one), 1 + FAR * (2 * FAR + 1))

    def test_somewhat_beyond_the_bounds(self):
        self.assertEqual(shift_of(repeats(2, 3, 4, 5)), 120)
        self.assertEqual(executed(repeats(2, 3, 4, 5)), 120)
        self.assertEqual(executed([STEP] * 150), 150)
        self.assertEqual(shift_of([("step", 5 * FAR)] + [("repeat", 2 * FAR, [STEP])] * 7), 19 * FAR)


def count_of_instructions(one):
    total = 0
    for row in one:
        if row[0] != "repeat":
            total += 1
        else:
            for _ in range(row[1]):
                total += count_of_instructions(row[2])
    return total


class EffectOfTest(unittest.TestCase):
    def check(self, prime, one):
        dials, place = ran(prime, one)
        self.assertEqual(effect_of(prime, one), (tuple(dials.items()), place), one)

    def test_against_a_run_step_by_step(self):
        for prime in PRIMES:
            for seed in range(60):
                self.check(prime, program(seed))
                self.check(prime, with_tuples(program(seed)))

    def test_programs_at_the_bounds(self):
        for one in PROGRAMS_AT_THE_BOUNDS:
            if executed(one) <= 10000 and max([row[1] for row in one if row[0] == "repeat"], default=0) < 100:
                self.check(97, one)

    def test_turns_that_cancel(self):
        self.assertEqual(effect_of(2, [("turn", 2)]), ((), 0))
        self.assertEqual(effect_of(97, [("turn", FAR), ("turn", -FAR)]), ((), 0))
        self.assertEqual(effect_of(5, [("repeat", 5, [("turn", 3)])]), ((), 0))

    def test_far_places_and_great_turns(self):
        one = [("step", FAR), ("turn", FAR), ("step", -FAR), ("step", -FAR), ("turn", -FAR)]
        self.assertEqual(effect_of(7, one), (((-FAR, -FAR % 7), (FAR, FAR % 7)), -FAR))

    def test_the_limit_by_one_repeat(self):
        for count in (9999, 10000):
            self.assertEqual(effect_of(5, repeats(count)), ((), count))
            expected = tuple((place, 1) for place in range(count // 2))
            self.assertEqual(effect_of(5, [("repeat", count // 2, [("turn", 1), STEP])])[0], expected)
        self.fails(repeats(10001))
        self.fails([("repeat", 5000, [("turn", 1), STEP]), STEP])

    def test_the_limit_by_two_repeats_one_inside_another(self):
        self.assertEqual(effect_of(3, repeats(100, 100)), ((), 10000))
        self.assertEqual(effect_of(3, repeats(99, 101)), ((), 9999))
        self.assertEqual(effect_of(3, repeats(9, 1111)), ((), 9999))
        self.assertEqual(effect_of(3, repeats(99, 100) + repeats(100)), ((), 10000))
        self.fails(repeats(73, 137))
        self.fails([("repeat", 100, [("repeat", 100, [STEP])]), STEP])
        self.fails([("turn", 1), ("repeat", 10, [("repeat", 1000, [STEP])])])

    def test_the_limit_by_repeats_one_after_another(self):
        self.assertEqual(effect_of(3, repeats(5000) + repeats(5000)), ((), 10000))
        self.fails(repeats(5000) + repeats(5001))

    def test_counts_of_0_and_steps_and_turns_of_0_count(self):
        self.assertEqual(effect_of(3, [("repeat", 10000, [("step", 0)])]), ((), 0))
        self.fails([("repeat", 10001, [("step", 0)])])
        self.fails([("repeat", 10001, [("turn", 0)])])
        self.fails(repeats(FAR, FAR))
        self.fails(repeats(FAR, FAR, body=[("turn", 0)]))

    def fails(self, one):
        with self.assertRaises(TooLong) as caught:
            effect_of(5, one)
        self.assertEqual(caught.exception.limit, 10000)

    def test_repeats_that_do_nothing_are_not_carried_out(self):
        for idle in (
            repeats(0), repeats(0, body=()), repeats(FAR, body=()), repeats(0, FAR), repeats(FAR, 0),
            repeats(FAR, FAR, body=()), repeats(0, 0), repeats(0, FAR, body=()), repeats(FAR, 0, body=()),
            repeats(0, body=[("turn", 1)] * 97),
            [("repeat", FAR, [("repeat", 0, [STEP]), ("repeat", FAR, [])])],
            [("repeat", 0, [STEP, ("repeat", FAR, [STEP, ("turn", 1)])])],
        ):
            self.assertEqual(effect_of(5, idle), ((), 0))
            self.assertEqual(effect_of(5, with_tuples(idle)), ((), 0))
            self.assertEqual(effect_of(5, [("turn", 1)] + idle + [STEP]), (((0, 1),), 1))
            self.assertEqual((executed(idle), shift_of(idle)), (0, 0))
        for idle in (repeats(0), repeats(FAR, body=()), [("repeat", 0, [("turn", 1)] * 40)]):
            expected = (tuple((place, 1) for place in range(5000)), 5000)
            self.assertEqual(effect_of(5, [("repeat", 5000, idle + [("turn", 1)] + idle + [STEP])]), expected)

    def test_somewhat_beyond_the_bounds(self):
        for one in (repeats(2, 3, 2, body=[("turn", 1), STEP]), repeats(*[2] * 7), [STEP, ("turn", 1)] * 60):
            self.check(5, one)
        self.assertEqual(effect_of(5, [("step", 10 ** 40), ("turn", 10 ** 40 + 1)]), (((10 ** 40, 1),), 10 ** 40))


if __name__ == "__main__":
    unittest.main()
