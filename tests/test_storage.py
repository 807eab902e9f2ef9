"""Point 35: equal roads, and the texts of roads."""

import unittest

from dialroad.errors import InvalidLine, NothingLeft
from dialroad.road import Road
from dialroad.storage import load, save
from tests.samples import FAR, OTHER_VALUES, PRIMES, program, repeats, valid_programs, with_lists, with_tuples

ALL_PRIMES = (2, 3, 5, 7, 11, 13, 17, 19, 23, 29, 31, 37, 41, 43, 47, 53, 59, 61, 67, 71, 73, 79, 83, 89, 97)
TEXT = "prime 5\nenter ann 2\nrun ann turn 3 step -1 repeat 2 [ step 4 ]\nenter bob -7\nrun bob\nrun ann step 1"


def road_of(prime, *actions):
    """A road with these actions: pairs of a name and a place or a program."""
    road = Road(prime)
    for name, what in actions:
        if isinstance(what, int):
            road.enter(name, what)
        else:
            road.run(name, what)
    return road


def roads():
    """Roads of many kinds."""
    yield Road(2)
    for at, prime in enumerate(PRIMES):
        yield road_of(prime, ("ann", -at), ("abcdefgh", FAR), ("ann", []), ("ann", ()), ("z", -FAR), ("z", [("turn", 0)]))
        for seed in range(20):
            yield road_of(prime, ("ann", seed), ("ann", program(seed)), ("bob", 0), ("bob", program(seed + 50)),
                          ("ann", program(seed + 99)))
    yield road_of(7, ("ann", 0), *[("ann", one) for one in valid_programs()])
    yield road_of(3, ("ann", 0), *[("ann", [("turn", 1)])] * 200)


class EqualityTest(unittest.TestCase):
    def check(self, one, other, expected):
        for first, second in ((one, other), (other, one)):
            self.assertIs(first == second, expected)
            self.assertIs(first != second, not expected)

    def test_primes_and_actions(self):
        self.check(Road(2), Road(2), True)
        self.check(Road(2), Road(3), False)
        base = (("ann", 1), ("ann", [("step", 1)]), ("bob", 2))
        for actions in (base[:2], base[:1], base + base[1:2], base[:1] + base[2:] + base[1:2], (("anna", 1),) + base[2:],
                        (("ann", 2),) + base[1:], (("ann", 1), ("ann", [("step", 2)]), ("bob", 2)),
                        (("ann", 1), ("ann", [("turn", 1)]), ("bob", 2)), (("ann", 1), ("ann", []), ("bob", 2)), ()):
            self.check(road_of(5, *base), road_of(5, *actions), False)
        self.check(road_of(5, *base), road_of(5, *base), True)
        self.check(road_of(5, *base), road_of(7, *base), False)

    def test_equal_dials_do_not_suffice(self):
        self.check(road_of(5, ("ann", 1), ("ann", [("step", 2)])),
                   road_of(5, ("ann", 1), ("ann", [("step", 1), ("step", 1)])), False)
        self.check(road_of(5, ("ann", 1), ("ann", [("turn", 5)])), road_of(5, ("ann", 1), ("ann", [])), False)

    def test_lists_and_tuples_count_as_the_same(self):
        for one in valid_programs():
            values = (one, with_lists(one), with_tuples(one))
            for value in values:
                self.check(road_of(5, ("ann", 0), ("ann", one)), road_of(5, ("ann", 0), ("ann", value)), True)

    def test_actions_that_were_taken_back_do_not_count(self):
        one, other = road_of(5, ("ann", 1), ("ann", [("step", 1)])), road_of(5, ("ann", 1))
        one.undo()
        self.check(one, other, True)
        one.redo()
        self.check(one, other, False)
        one.undo()
        one.undo()
        self.check(one, Road(5), True)
        one.enter("bob", 3)
        self.check(one, road_of(5, ("bob", 3)), True)

    def test_other_values(self):
        for road in (Road(5), load(TEXT)):
            for value in OTHER_VALUES + (TEXT, road.actions(), road.places(), 5):
                self.check(road, value, False)


class SaveTest(unittest.TestCase):
    def test_lines(self):
        self.assertEqual(save(Road(97)), "prime 97")
        road = road_of(5, ("ann", 2), ("ann", [("turn", 3), ("step", -1), ("repeat", 2, [("step", 4)])]), ("bob", -7),
                       ("bob", ()), ("ann", (("step", 1),)))
        self.assertEqual(save(road), TEXT)
        self.assertEqual(save(road_of(2, ("ann", 0), ("ann", [("repeat", 0, [])]))),
                         "prime 2\nenter ann 0\nrun ann repeat 0 [ ]")
        self.assertEqual(save(road_of(2, ("a", -FAR))), "prime 2\nenter a -1" + "0" * 30)

    def test_actions_that_were_taken_back_are_not_saved(self):
        road = load(TEXT)
        road.undo()
        road.undo()
        self.assertEqual(save(road), "\n".join(TEXT.split("\n")[:4]))
        road.redo()
        self.assertEqual(save(road), "\n".join(TEXT.split("\n")[:5]))

    def test_saving_changes_nothing(self):
        road = load(TEXT)
        road.undo()
        self.assertEqual(save(road), save(road))
        self.assertEqual(road.redo(), ("run", "ann", [("step", 1)]))


class LoadTest(unittest.TestCase):
    def test_every_road_read_back(self):
        for road in roads():
            found = load(save(road))
            self.assertIs(found == road, True)
            self.assertEqual(save(found), save(road))
            self.assertEqual(found.places(), road.places())
            expected = [(word, name, with_lists(what) if word == "run" else what) for word, name, what in road.actions()]
            self.assertEqual(repr(found.actions()), repr(expected))
            with self.assertRaises(NothingLeft):
                found.redo()

    def test_all_primes(self):
        for number in range(-3, 200):
            if number in ALL_PRIMES:
                self.assertEqual(save(load(f"prime {number}")), f"prime {number}")
            else:
                self.check(f"prime {number}", 0)

    def test_a_loaded_road_is_a_road(self):
        road = load(TEXT)
        self.assertIs(type(road), Road)
        self.assertEqual(road.places(), {"ann": 10, "bob": -7})
        self.assertEqual((road.dial(2), road.dial(2, 1)), (3, 0))
        self.assertEqual(road.undo(), ("run", "ann", [("step", 1)]))
        self.assertIs(load(TEXT) == load(TEXT), True)

    def check(self, value, position):
        with self.assertRaises(InvalidLine) as caught:
            load(value)
        self.assertEqual(caught.exception.position, position, value)
        self.assertIs(type(caught.exception.position), int)
        self.assertIsInstance(caught.exception, ValueError)

    def test_values_that_are_no_strings(self):
        for value in OTHER_VALUES:
            if not isinstance(value, str):
                self.check(value, 0)
        self.check([TEXT], 0)
        self.check(tuple(TEXT.split("\n")), 0)

    def test_the_first_line(self):
        for line in ("", " ", "prime", "prime ", "prime  5", "prime 5 ", " prime 5", "prime 05", "prime +5", "prime -5",
                     "prime 5.0", "Prime 5", "prime five", "prime 5 5", "5", "enter ann 2", "run ann", "prime 4",
                     "prime 1", "prime 0", "prime 101", "prime 97 ", "prime\t5", "prime " + "9" * 5000):
            self.check(line, 0)
            self.check(line + "\nenter ann 2", 0)
            self.check(line + "\nnonsense", 0)
        self.check("\n" + TEXT, 0)

    def test_lines_of_walkers(self):
        for line in ("", " ", "enter", "enter ann", "enter ann ", "enter  ann 2", "enter ann  2", " enter ann 2",
                     "enter ann 2 ", "enter ann 2 3", "enter ann +2", "enter ann 02", "enter ann -0", "enter ann 00",
                     "enter ann -02", "enter ann --2", "enter ann -", "enter ann 2.0", "enter ann x", "enter ann 1_0",
                     "enter ann 1" + "0" * 29 + "1", f"enter ann {FAR + 1}", f"enter ann {-FAR - 1}", "Enter ann 2",
                     "enter Ann 2", "enter abcdefghi 2", "enter  2", "enter a1 2", "prime 5", "step 1", "ann enter 2",
                     "enter bob 2", "enter bob 3", "enter ann [ 2 ]", "leave ann 2", "enter ann 9" + "9" * 5000):
            if line == "enter ann 1" + "0" * 29 + "1":
                # This one has 31 digits and is beyond the bound by 1.
                self.assertGreater(int(line.split(" ")[2]), FAR)
            self.check("prime 5\nenter bob 2\n" + line, 2)
            self.check("prime 5\nenter bob 2\n" + line + "\nenter cid 3\nnonsense", 2)
        for place in (0, 2, -2, FAR, -FAR, FAR - 1):
            self.assertEqual(load(f"prime 5\nenter bob 2\nenter ann {place}").places()["ann"], place)

    def test_lines_of_runs(self):
        for line in ("run", "run ", "run  ann", "run ann ", "run ann  ", " run ann", "run ann  step 1", "run ann step 1 ",
                     "run ann step  1", "run ann step", "run ann step 01", "run ann step +1", "run ann step -0",
                     "run ann 1", "run ann [ ]", "run ann repeat 2", "run ann repeat 2 [", "run ann repeat 2 [ step 1",
                     "run ann repeat -1 [ ]", "run ann repeat 1 [ ] ]", "run bob step 1", "run bob", "run Ann",
                     "Run ann", "run step 1", "ran ann", f"run ann step {FAR + 1}", f"run ann turn {-FAR - 1}",
                     "run ann" + " repeat 1 [ ]" * 6, "run ann" + " step 1" * 101, "run ann turn 1 stop 2",
                     "run ann repeat 1 [ repeat 1 [ repeat 1 [ ] ] ]", "runann", "run ann jump 1"):
            self.check("prime 5\nenter ann 2\nrun ann\n" + line, 3)
            self.check("prime 5\nenter ann 2\nrun ann\n" + line + "\nrun ann\nnonsense", 3)
        for line in ("run ann", "run ann step 0", "run ann repeat 0 [ ]", "run ann" + " step 1" * 100,
                     "run ann" + " repeat 1 [ ]" * 5, f"run ann step {-FAR} turn {FAR}"):
            self.assertEqual(save(load("prime 5\nenter ann 2\n" + line)), "prime 5\nenter ann 2\n" + line)

    def test_runs_before_the_walker_enters(self):
        self.check("prime 5\nrun ann\nenter ann 2", 1)
        self.check("prime 5\nenter bob 1\nrun bob\nrun ann step 1\nenter ann 2", 3)

    def test_newlines_too_many(self):
        lines = TEXT.split("\n")
        for at in range(len(lines) + 1):
            self.check("\n".join(lines[:at] + [""] + lines[at:]), at)
        self.check(TEXT + "\n", len(lines))
        self.check(TEXT + "\n\n", len(lines))
        self.check("", 0)
        self.check("\n", 0)

    def test_one_line_removed_or_repeated(self):
        lines = TEXT.split("\n")
        for at, line in enumerate(lines):
            removed = lines[:at] + lines[at + 1:]
            expected = {0: 0, 1: 1, 3: 3}.get(at)
            if expected is None:
                self.assertEqual(save(load("\n".join(removed))), "\n".join(removed))
            else:
                self.check("\n".join(removed), expected)
            again = lines[:at + 1] + [line] + lines[at + 1:]
            if line.startswith("run"):
                self.assertEqual(save(load("\n".join(again))), "\n".join(again))
            else:
                self.check("\n".join(again), at + 1)

    def test_one_word_removed_repeated_or_changed(self):
        lines = TEXT.split("\n")
        for at, line in enumerate(lines):
            words = line.split(" ")
            for k in range(len(words)):
                for other in (words[:k] + words[k + 1:], words[:k + 1] + words[k:], words[:k] + ["?"] + words[k + 1:],
                              words[:k] + [""] + words[k:], words[:k] + [words[k].upper() + "!"] + words[k + 1:]):
                    changed = lines[:at] + [" ".join(other)] + lines[at + 1:]
                    if other == ["run", "bob"]:
                        continue
                    self.check("\n".join(changed), at)

    def test_the_201st_run(self):
        text = "prime 3\nenter ann 0" + "\nrun ann step 1" * 200
        self.assertEqual(load(text).places(), {"ann": 200})
        self.check(text + "\nrun ann step 1", 202)
        self.check(text + "\nrun ann", 202)
        self.check(text + "\nrun bob", 202)
        self.check(text + "\nenter bob 3\nrun bob", 203)
        self.assertEqual(load(text + "\nenter bob 3").places(), {"ann": 200, "bob": 3})
        self.check(text + "\nenter ann 3\nrun ann", 202)

    def test_long_programs(self):
        road = road_of(5, ("ann", 0), ("ann", repeats(FAR, FAR, body=[("turn", FAR)] * 98)))
        self.assertIs(load(save(road)) == road, True)


if __name__ == "__main__":
    unittest.main()
