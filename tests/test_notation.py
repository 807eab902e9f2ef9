"""Point 17: the text of a program, and the position of the first token that cannot stand."""

import unittest

from dialroad.errors import InvalidText
from dialroad.notation import format_program, parse_program
from dialroad.programs import is_program
from tests.samples import FAR, OTHER_VALUES, program, repeats, valid_programs, with_lists, with_tuples

# Tokens that are counts, at least for a step and a turn, and tokens that are none.
COUNTS = ("0", "1", "-1", "9", "10", "-10", str(FAR), str(-FAR))
NO_COUNTS = (
    "", "-", "--1", "-0", "+0", "+1", "00", "01", "-01", "007", "1.0", "1e3", "1_000", "0x1", "1-", "1\n", "\n1", "\t1",
    "1,", "None", "True", "one", "[", "]", "step", "turn", "repeat", "[]", "1]", "[1", "\u0661", "\u00b2", "1\u0661",
    "\uff11", "-\u0661", str(FAR + 1), str(-FAR - 1), "1" + "0" * 31, "-1" + "0" * 31, "9" * 31, "9" * 5000,
    "-" + "9" * 5000, "0" * 5000, "\u2212" + "1",
)
NO_WORDS = (
    "", "Step", "STEP", "steps", "ste", "step\n", "\nstep", "jump", "0", "1", "-1", "[", "[]", "step1", "(", "\t",
    "turn\t",
)


class FormatTest(unittest.TestCase):
    def test_texts(self):
        for one, text in (
            ([], ""), ((), ""), ([("step", 0)], "step 0"), ([("turn", -3), ("step", 12)], "turn -3 step 12"),
            ([("repeat", 0, [])], "repeat 0 [ ]"), ((("repeat", 1, ()),), "repeat 1 [ ]"),
            ([("repeat", FAR, [("turn", -FAR)])], f"repeat {FAR} [ turn -{FAR} ]"),
            ([("turn", 1), ("repeat", 3, [("step", 2), ("turn", 1)])], "turn 1 repeat 3 [ step 2 turn 1 ]"),
            (repeats(2, 3), "repeat 2 [ repeat 3 [ step 1 ] ]"), (repeats(2, 3, body=()), "repeat 2 [ repeat 3 [ ] ]"),
            ([("repeat", 2, [("repeat", 3, []), ("step", 1)]), ("turn", 4)], "repeat 2 [ repeat 3 [ ] step 1 ] turn 4"),
        ):
            self.assertEqual(format_program(one), text)
            self.assertEqual(parse_program(text), with_lists(one))

    def test_texts_are_read_back_as_equal_programs(self):
        for one in valid_programs() + [program(seed, longest=7, farthest=FAR) for seed in range(100)]:
            if is_program(one):
                text = format_program(one)
                self.assertEqual(text, format_program(with_tuples(one)))
                found = parse_program(text)
                self.assertEqual(found, with_lists(one))
                self.assertEqual(format_program(found), text)
                self.assertIs(is_program(found), True)

    def test_somewhat_beyond_the_bounds(self):
        self.assertEqual(format_program(repeats(1, 2, 3)), "repeat 1 [ repeat 2 [ repeat 3 [ step 1 ] ] ]")
        self.assertEqual(format_program([("step", 10 ** 40)] * 101), " ".join([f"step {10 ** 40}"] * 101))
        self.assertEqual(format_program([("repeat", 1, [])] * 6), " ".join(["repeat 1 [ ]"] * 6))


class ParseTest(unittest.TestCase):
    def fails(self, text, position):
        with self.assertRaises(InvalidText) as caught:
            parse_program(text)
        self.assertEqual(caught.exception.position, position, text)

    def test_kinds_of_values(self):
        found = parse_program("repeat 2 [ step 1 repeat 0 [ ] ]")
        self.assertEqual(repr(found), "[('repeat', 2, [('step', 1), ('repeat', 0, [])])]")
        self.assertEqual(repr(parse_program("")), "[]")

    def test_values_that_are_no_strings(self):
        for value in OTHER_VALUES + ((), ["step", "1"], ("step", 1), [("step", 1)], {"step": 1}, b"step 1", b""):
            if not isinstance(value, str):
                self.fails(value, 0)

    def test_spaces(self):
        for text, position in (
            (" ", 0), ("  ", 0), (" step 1", 0), ("step 1 ", 2), ("step  1", 1), ("step 1  turn 1", 2), ("step ", 1),
            ("repeat 2  [ ]", 2), ("repeat 2 [  ]", 3), ("repeat 2 [ ] ", 4), ("repeat 2 [ step 1  ]", 5),
            ("\n", 0), ("step\n1", 0), ("step 1\n", 1), ("step 1\nturn 2", 1), ("step\t1", 0), ("step 1 \n", 2),
        ):
            self.fails(text, position)

    def test_counts(self):
        for before, words in (("", 0), ("turn 1 ", 2), ("repeat 3 [ ", 3), ("repeat 3 [ repeat 4 [ ] ", 7)):
            after = " ]" if "[" in before else ""
            for token in COUNTS:
                for word in ("step", "turn"):
                    found = parse_program(f"{before}{word} {token}{after}")
                    self.assertIn(repr((word, int(token))), repr(found))
                if not token.startswith("-"):
                    found = parse_program(f"{before}repeat {token} [ ]{after}")
                    self.assertIn(repr(("repeat", int(token), [])), repr(found))
                else:
                    self.fails(f"{before}repeat {token} [ ]{after}", words + 1)
            for token in NO_COUNTS:
                for word in ("step", "turn", "repeat"):
                    self.fails(f"{before}{word} {token}", words + 1)
                    self.fails(f"{before}{word} {token} [ ]", words + 1)

    def test_words(self):
        for before in ("", "turn 1 ", "repeat 3 [ ", "repeat 3 [ ] ", "repeat 3 [ step 1 "):
            position = before.count(" ")
            for token in NO_WORDS:
                # The empty text is a program.
                if before or token:
                    self.fails(before + token, position)
                self.fails(f"{before}{token} 1", position)

    def test_brackets(self):
        for text, position in (
            ("]", 0), ("[", 0), ("[ ]", 0), ("step 1 ]", 2), ("step 1 [ ]", 2), ("repeat 1 [ ] ]", 4),
            ("repeat 1 ]", 2), ("repeat 1 (", 2),
            ("repeat 1 step", 2), ("repeat [", 1), ("repeat 1 [ [", 3), ("repeat 1 [ step 1 ] ] ]", 6),
            ("repeat 1 [ repeat 1 [ ] ] ]", 8), ("step ]", 1), ("repeat 1 [ step ]", 4), ("repeat 1 [ repeat ]", 4),
            ("repeat 1 [ repeat 1 ]", 5), ("repeat 1 []", 2), ("repeat 1 [[ ]", 2), ("repeat 1 [ ]]", 3),
        ):
            self.fails(text, position)

    def test_texts_that_end_too_early(self):
        for text in (
            "step", "turn", "repeat", "repeat 1", "repeat 1 [", "repeat 1 [ step", "repeat 1 [ step 1", "step 1 turn",
            "repeat 1 [ repeat", "repeat 1 [ repeat 1", "repeat 1 [ repeat 1 [", "repeat 1 [ repeat 1 [ ]",
            "repeat 1 [ ] repeat 2 [ turn 1",
        ):
            self.fails(text, len(text.split(" ")))

    def test_the_first_of_several_wrong_tokens(self):
        self.fails("step 01 turn 02", 1)
        self.fails("repeat -1 ( ]", 1)
        self.fails("step 1 jump x", 2)

    def test_the_101st_instruction(self):
        hundred = "step 1 " * 99 + "turn 2"
        self.assertEqual(len(parse_program(hundred)), 100)
        self.assertEqual(len(parse_program("step 1 " * 99 + "repeat 5 [ ]")), 100)
        for word in ("step", "turn", "repeat"):
            self.fails(f"{hundred} {word}", 200)
            self.fails(f"{hundred} {word} 1", 200)
        self.fails(hundred + " jump", 200)
        self.fails("step 1 " * 99 + "repeat 5 [ step 1 ]", 201)
        inner = "repeat 2 [ " + "step 1 " * 98 + "turn 2"
        self.assertEqual(len(parse_program(inner + " ]")[0][2]), 99)
        self.fails(inner + " step 1 ]", 201)
        self.fails(inner + " ] step 1", 202)
        self.fails(inner, 201)
        deep = "repeat 2 [ repeat 3 [ " + "step 1 " * 98
        self.assertEqual(len(parse_program(deep + "] ]")[0][2][0][2]), 98)
        self.fails(deep + "step", 202)
        self.fails(deep + "] turn", 203)

    def test_the_sixth_repeat(self):
        for idle, tokens in (("repeat 0 [ ] ", 4), ("repeat 7 [ step 1 ] ", 6)):
            five = idle * 5
            self.assertEqual(len(parse_program(five[:-1])), 5)
            self.fails(five + "repeat", 5 * tokens)
            self.fails(five + "repeat 1 [ ]", 5 * tokens)
            self.assertEqual(len(parse_program(five + "step 1")), 6)
            self.assertEqual(len(parse_program("repeat 1 [ " + idle * 4 + "]")[0][2]), 4)
            self.fails("repeat 1 [ " + idle * 4 + "repeat", 3 + 4 * tokens)
            self.fails("repeat 1 [ " + idle * 4 + "] repeat 1 [ ]", 4 + 4 * tokens)

    def test_a_repeat_at_depth_3(self):
        deep = "repeat 1 [ repeat 2 [ "
        self.assertEqual(parse_program(deep + "step 3 ] ]"), repeats(1, 2, body=[("step", 3)]))
        self.fails(deep + "repeat", 6)
        self.fails(deep + "repeat 3 [ ] ] ]", 6)
        self.fails(deep + "step 1 repeat 3 [ ] ] ]", 8)
        beside = [("repeat", 1, [("repeat", 2, []), ("repeat", 3, [])])]
        self.assertEqual(parse_program(deep + "] repeat 3 [ ] ]"), beside)
        self.fails(deep + "] repeat 3 [ repeat 4 [ ] ] ]", 10)

    def test_a_token_cannot_stand_exactly_if_no_text_begins_so(self):
        # Every beginning of a valid text can be completed; one that was refused at its last token cannot.
        text = "turn 1 repeat 3 [ repeat 0 [ ] step -2 ] step 5"
        tokens = text.split(" ")
        for many in range(len(tokens) + 1):
            beginning = " ".join(tokens[:many])
            try:
                parse_program(beginning)
            except InvalidText as error:
                self.assertEqual(error.position, many)


if __name__ == "__main__":
    unittest.main()
