"""Points 33 and 34: walkers that enter and run programs, the history, dials and places."""

import copy
import time
import unittest
from random import Random

from dialroad.errors import DuplicateName, InvalidName, InvalidPlace, InvalidProgram
from dialroad.errors import NoSuchMoment, NothingLeft, UnknownName
from dialroad.far import value_at
from dialroad.road import Road
from tests.samples import FAR, OTHER_VALUES, PRIMES, program, ran, repeats, valid_programs, with_lists, with_tuples

NAMES = ("a", "z", "ann", "abcdefgh", "zzzzzzzz")
NOT_NAMES = (None, True, 0, 1, "", "A", "Ann", "a b", "ann ", " ann", "abcdefghi", "ann1", "a-b", "an_n", "a\n", [], ["ann"],
             ("ann",), {"ann": 1}, {}, "1", "aB")
NOT_PLACES = (None, True, False, "", "1", [], [1], (1,), {}, {1: 1}, FAR + 1, -FAR - 1, 10 ** 99, -10 ** 99)
NOT_PROGRAMS = (None, True, 0, "", "step 1", {}, [()], [None], [("step",)], [("step", True)], [["step", 1]], ["step", 1],
                [("jump", 1)], [("step", FAR + 1)], [("repeat", -1, [])], [("repeat", 1)], [("step", 1)] * 101,
                repeats(1, 1, 1), [("repeat", 1, [])] * 6, ([("step", 1)],))
NOT_MOMENTS = (True, False, -1, "", "0", [], [0], (0,), {}, 10 ** 99, -10 ** 99)


def snapshot(road):
    """All that a road shows, without changing it."""
    many = len(road.actions())
    dials = [[road.dial(place, moment) for place in range(-6, 7)] for moment in (*range(many + 1), None)]
    return road.actions(), dials, [list(road.places(moment).items()) for moment in (*range(many + 1), None)]


def some_road(prime=5):
    """A road with two walkers and some runs."""
    road = Road(prime)
    road.enter("bob", 3)
    road.run("bob", [("turn", 2), ("step", -1), ("turn", 1)])
    road.enter("ann", -2)
    road.run("ann", (("repeat", 3, [("turn", 1), ("step", 2)]),))
    return road


def replayed(prime, actions):
    """The dials and the places after actions, run one instruction after the other."""
    dials, places = {}, {}
    for word, name, what in actions:
        if word == "enter":
            places[name] = what
        else:
            dials, places[name] = ran(prime, what, dials, places[name])
    return dials, places


class EnterTest(unittest.TestCase):
    def test_walkers_stand_where_they_enter(self):
        road = Road(2)
        for at, name in enumerate(NAMES):
            self.assertIsNone(road.enter(name, at - 2))
        for at, name in enumerate(NAMES):
            self.assertEqual(road.places()[name], at - 2)
        self.assertEqual(list(road.places()), sorted(NAMES))
        self.assertEqual(road.dial(0), 0)

    def test_places_at_the_bounds(self):
        road = Road(97)
        for name, place in (("a", FAR), ("b", -FAR), ("c", 0), ("d", FAR - 1)):
            road.enter(name, place)
            self.assertEqual(road.places()[name], place)

    def check(self, road, error, value, *arguments):
        before = snapshot(road)
        with self.assertRaises(error) as caught:
            road.enter(*arguments)
        self.assertIs(type(caught.exception), error)
        self.assertEqual(repr(caught.exception.value), repr(value))
        self.assertIsInstance(caught.exception, ValueError)
        self.assertEqual(snapshot(road), before)

    def test_invalid_names_come_first(self):
        for name in NOT_NAMES:
            for place in (0,) + NOT_PLACES:
                self.check(some_road(), InvalidName, name, name, place)

    def test_duplicate_names_come_next(self):
        for place in (0, 3) + NOT_PLACES:
            self.check(some_road(), DuplicateName, "ann", "ann", place)
            self.check(some_road(), DuplicateName, "bob", "bob", place)

    def test_invalid_places_come_last(self):
        for place in NOT_PLACES:
            self.check(some_road(), InvalidPlace, place, "cid", place)
            self.check(Road(2), InvalidPlace, place, "cid", place)

    def test_a_name_is_free_again_after_undo(self):
        road = Road(3)
        road.enter("ann", 1)
        road.undo()
        road.enter("ann", 2)
        self.assertEqual(road.places(), {"ann": 2})


class RunTest(unittest.TestCase):
    def check(self, road, error, value, *arguments):
        before = snapshot(road)
        with self.assertRaises(error) as caught:
            road.run(*arguments)
        self.assertIs(type(caught.exception), error)
        self.assertEqual(repr(caught.exception.value), repr(value))
        self.assertEqual(snapshot(road), before)
        return caught.exception

    def test_unknown_names_come_first(self):
        for name in NOT_NAMES + ("cid", "anna", "an"):
            for value in ([], [("step", 1)]) + NOT_PROGRAMS:
                self.assertIsInstance(self.check(some_road(), UnknownName, name, name, value), LookupError)

    def test_invalid_programs_come_next(self):
        for value in NOT_PROGRAMS:
            self.assertIsInstance(self.check(some_road(), InvalidProgram, value, "ann", value), ValueError)
        for value in OTHER_VALUES:
            if value != []:
                self.check(some_road(), InvalidProgram, value, "bob", value)

    def test_a_walker_that_was_taken_back_is_unknown(self):
        road = Road(3)
        road.enter("ann", 1)
        road.undo()
        self.check(road, UnknownName, "ann", "ann", [])
        self.assertEqual(road.redo(), ("enter", "ann", 1))
        self.assertIsNone(road.run("ann", []))

    def test_every_valid_program_runs(self):
        for one in valid_programs():
            for value in (one, with_lists(one), with_tuples(one)):
                road = Road(7)
                road.enter("ann", 4)
                self.assertIsNone(road.run("ann", value))
                for place in (-3, 0, 4, 5, FAR):
                    self.assertEqual(road.dial(place), value_at(7, one, place - 4))

    def test_against_running_step_by_step(self):
        for prime in PRIMES:
            for seed in range(25):
                source = Random(seed)
                road = Road(prime)
                for name in ("ann", "bob"):
                    road.enter(name, source.randint(-3, 3))
                for at in range(6):
                    road.run(source.choice(("ann", "bob")), program(seed * 10 + at))
                actions = road.actions()
                for moment in (*range(len(actions) + 1), None):
                    dials, places = replayed(prime, actions[:moment])
                    self.assertEqual(road.places(moment), places)
                    shown = {place: road.dial(place, moment) for place in range(-60, 61)}
                    self.assertEqual({place: shown[place] for place in shown if shown[place]},
                                     {place: dials[place] for place in dials if -60 <= place <= 60})

    def test_programs_with_counts_of_up_to_10_to_the_30(self):
        road = Road(7)
        road.enter("ann", -FAR)
        wall = repeats(FAR, FAR, body=[("turn", 3), ("step", FAR)])
        road.run("ann", wall)
        road.run("ann", [("repeat", FAR, [("turn", 2), ("step", 3)])])
        start = -FAR + FAR ** 3
        self.assertEqual(road.places(), {"ann": start + 3 * FAR})
        self.assertEqual(road.dial(-FAR), 3)
        self.assertEqual(road.dial(FAR ** 2 - FAR), 3)
        self.assertEqual(road.dial(FAR ** 2 - FAR + 1), 0)
        self.assertEqual(road.dial(start), 2)
        self.assertEqual(road.dial(start, 2), 0)
        self.assertEqual(road.dial(start + 3 * FAR), 0)
        self.assertEqual(road.dial(start + 3 * FAR - 3), 2)


class HistoryTest(unittest.TestCase):
    def test_undo_and_redo_return_the_actions(self):
        road = some_road()
        actions = road.actions()
        self.assertEqual([road.undo() for _ in actions], actions[::-1])
        self.assertEqual(road.actions(), [])
        self.assertEqual([road.redo() for _ in actions], actions)
        self.assertEqual(road.actions(), actions)

    def test_actions_are_equal_to_what_was_passed(self):
        inner = (("repeat", 2, [("step", 1), ("repeat", 0, ())]), ("turn", -FAR))
        for value in (inner, list(inner), with_lists(inner), with_tuples(inner), [], ()):
            road = Road(5)
            road.enter("ann", 2)
            road.run("ann", value)
            self.assertEqual(repr(road.actions()), repr([("enter", "ann", 2), ("run", "ann", value)]))
            self.assertEqual(repr(road.undo()), repr(("run", "ann", value)))
            self.assertEqual(repr(road.redo()), repr(("run", "ann", value)))
            self.assertEqual(repr(road.actions()), repr([("enter", "ann", 2), ("run", "ann", value)]))

    def check_nothing_left(self, road, word):
        before = snapshot(road)
        with self.assertRaises(NothingLeft) as caught:
            getattr(road, word)()
        self.assertEqual(caught.exception.word, word)
        self.assertIsInstance(caught.exception, LookupError)
        self.assertEqual(snapshot(road), before)

    def test_nothing_left(self):
        road = Road(3)
        for word in ("undo", "redo"):
            self.check_nothing_left(road, word)
        road.enter("ann", 0)
        self.check_nothing_left(road, "redo")
        road.undo()
        self.check_nothing_left(road, "undo")
        road.redo()
        self.check_nothing_left(road, "redo")

    def test_a_new_action_makes_redoing_impossible(self):
        for act in (lambda road: road.enter("cid", 0), lambda road: road.run("bob", [])):
            road = some_road()
            road.undo()
            road.undo()
            act(road)
            self.check_nothing_left(road, "redo")

    def test_an_error_does_not_make_redoing_impossible(self):
        road = some_road()
        last = road.undo()
        for call in (lambda: road.enter("bob", 0), lambda: road.enter("x1", 0), lambda: road.enter("cid", None),
                     lambda: road.run("cid", []), lambda: road.run("bob", None), lambda: road.dial(0, 99),
                     lambda: road.places(-1), lambda: road.same_dials(0, 99)):
            with self.assertRaises((ValueError, LookupError)):
                call()
        self.assertEqual(road.redo(), last)

    def test_histories_against_running_step_by_step(self):
        for seed in range(40):
            source = Random(seed)
            prime = source.choice(PRIMES)
            road, done, back = Road(prime), [], []
            for at in range(40):
                word = source.choice(("enter", "run", "run", "undo", "redo"))
                names = [name for kind, name, _ in done if kind == "enter"]
                if word == "enter":
                    name = source.choice("abcdef")
                    if name in names:
                        with self.assertRaises(DuplicateName):
                            road.enter(name, at)
                    else:
                        road.enter(name, at - 20)
                        done, back = done + [("enter", name, at - 20)], []
                elif word == "run" and names:
                    name, value = source.choice(names), program(seed * 40 + at, 3, 3, 3)
                    road.run(name, value)
                    done, back = done + [("run", name, value)], []
                elif word == "undo" and done:
                    self.assertEqual(road.undo(), done[-1])
                    done, back = done[:-1], back + done[-1:]
                elif word == "redo" and back:
                    self.assertEqual(road.redo(), back[-1])
                    done, back = done + back[-1:], back[:-1]
                self.assertEqual(road.actions(), done)
            for moment in (0, len(done) // 2, len(done)):
                dials, places = replayed(prime, done[:moment])
                self.assertEqual(list(road.places(moment).items()), sorted(places.items()))
                self.assertEqual([road.dial(place, moment) for place in range(-30, 31)],
                                 [dials.get(place, 0) for place in range(-30, 31)])

    def test_what_a_road_returns_depends_on_its_actions_alone(self):
        road, other = some_road(), some_road()
        other.run("ann", [("turn", 1), ("step", 5)])
        other.undo()
        other.dial(3)
        self.assertEqual(snapshot(road), snapshot(other))
        other.undo()
        other.undo()
        other.redo()
        other.redo()
        self.assertEqual(snapshot(road), snapshot(other))


class MomentsTest(unittest.TestCase):
    def test_moments_that_are_none(self):
        for road in (Road(3), some_road()):
            for moment in NOT_MOMENTS + (len(road.actions()) + 1,):
                before = snapshot(road)
                for call in (lambda: road.dial(0, moment), lambda: road.places(moment),
                             lambda: road.same_dials(moment, 0), lambda: road.same_dials(0, moment),
                             lambda: road.same_dials(None, moment)):
                    with self.assertRaises(NoSuchMoment) as caught:
                        call()
                    self.assertEqual(repr(caught.exception.value), repr(moment))
                    self.assertIsInstance(caught.exception, IndexError)
                self.assertEqual(snapshot(road), before)

    def test_the_first_moment_that_is_not_valid(self):
        road = some_road()
        for one in NOT_MOMENTS + (5,):
            for other in NOT_MOMENTS + (6,):
                with self.assertRaises(NoSuchMoment) as caught:
                    road.same_dials(one, other)
                self.assertEqual(repr(caught.exception.value), repr(one))

    def test_now_and_the_last_moment_are_the_same(self):
        road = some_road()
        self.assertEqual(road.places(4), road.places())
        self.assertEqual(road.places(None), road.places())
        self.assertEqual(road.places(0), {})
        self.assertEqual(road.places(1), {"bob": 3})
        self.assertEqual(road.places(2), {"bob": 2})
        self.assertEqual(road.places(3), {"ann": -2, "bob": 2})
        self.assertEqual([road.dial(2, moment) for moment in (0, 1, 2, 3, 4, None)], [0, 0, 1, 1, 2, 2])

    def test_moments_that_were_taken_back(self):
        road = some_road()
        road.undo()
        with self.assertRaises(NoSuchMoment):
            road.places(4)
        road.redo()
        self.assertEqual(road.places(4), {"ann": 4, "bob": 2})


class CopiesTest(unittest.TestCase):
    def test_lists_that_were_passed_may_be_changed(self):
        inner = [("turn", 1), ("step", 2)]
        outer = [("repeat", 3, inner), ("turn", 1)]
        for value in (outer, tuple(outer)):
            road = Road(5)
            road.enter("ann", 0)
            road.run("ann", value)
            before = snapshot(road)
            saved = list(inner)
            inner.append(("turn", 1))
            inner[0] = ("step", 100)
            self.assertEqual(snapshot(road), before)
            inner[:] = saved
        outer.clear()
        self.assertEqual(snapshot(road), before)

    def test_lists_that_were_returned_may_be_changed(self):
        road = Road(5)
        road.enter("ann", 0)
        road.run("ann", [("repeat", 3, [("turn", 1), ("step", 2)]), ("turn", 1)])
        road.run("ann", (("repeat", 1, [("turn", 1)]),))
        before = snapshot(road)
        expected = copy.deepcopy(before)

        def disturb(action):
            if isinstance(action[2], list):
                action[2].append(("step", 9))
            if action[0] == "run":
                action[2][0][2].clear()

        for action in road.actions():
            disturb(action)
        road.actions().clear()
        road.places().clear()
        road.places()["ann"] = 77
        self.assertEqual(snapshot(road), expected)
        disturb(road.undo())
        disturb(road.undo())
        disturb(road.redo())
        disturb(road.redo())
        self.assertEqual(snapshot(road), expected)

    def test_two_roads_do_not_disturb_one_another(self):
        one, other = some_road(), some_road()
        before = snapshot(one)
        other.run("ann", [("turn", 1)])
        other.undo()
        other.undo()
        other.enter("cid", 8)
        self.assertEqual(snapshot(one), before)
        with self.assertRaises(NothingLeft):
            one.redo()
        fresh = Road(5)
        self.assertEqual((fresh.actions(), fresh.places()), ([], {}))


class SameDialsTest(unittest.TestCase):
    def road(self, prime, *programs):
        found = Road(prime)
        found.enter("ann", 0)
        for one in programs:
            found.run("ann", one)
        return found

    def test_against_running_step_by_step(self):
        seen = set()
        for prime in (2, 3):
            for seed in range(60):
                source = Random(seed)
                road = Road(prime)
                road.enter("ann", 0)
                road.enter("bob", 1)
                for at in range(6):
                    value = [(word, count) for word, count in
                             [source.choice((("turn", 1), ("step", 1), ("step", -1), ("turn", -1))) for _ in range(2)]]
                    road.run(source.choice(("ann", "bob")), value if at % 3 else [("repeat", 2, value)])
                actions = road.actions()
                for one in range(len(actions) + 1):
                    for other in range(len(actions) + 1):
                        same = replayed(prime, actions[:one])[0] == replayed(prime, actions[:other])[0]
                        self.assertIs(road.same_dials(one, other), same)
                        seen.add(same and one != other)
        self.assertEqual(seen, {True, False})

    def test_runs_that_cancel(self):
        there = [("repeat", FAR, [("turn", 1), ("step", 3)])]
        back = [("repeat", FAR, [("step", -3), ("turn", -1)])]
        road = self.road(5, there, back, there)
        self.assertEqual([road.same_dials(1, k) for k in (0, 1, 2, 3, 4)], [True, True, False, True, False])
        self.assertEqual([road.same_dials(k, 2) for k in (0, 1, 2, 3, 4, None)], [False, False, True, False, True, True])
        self.assertIs(road.same_dials(None, None), True)

    def test_runs_that_cancel_with_other_strides(self):
        # Twice as many rounds of one place are as many rounds of two places.
        single = [("repeat", 2 * 10 ** 29, [("turn", 1), ("step", 1)]), ("step", -2 * 10 ** 29)]
        double = [("repeat", 10 ** 29, [("turn", -1), ("step", 1), ("turn", -1), ("step", 1)]), ("step", -2 * 10 ** 29)]
        for more, expected in (([], True), ([("turn", 1)], False), ([("step", 10 ** 29 + 7), ("turn", 1)], False),
                               ([("step", 10 ** 29), ("turn", 7)], True), ([("step", -FAR), ("turn", 1)], False),
                               ([("step", FAR), ("turn", -1)], False)):
            road = self.road(7, single, double, more)
            self.assertIs(road.same_dials(0, 3), True)
            self.assertIs(road.same_dials(1, 3), True)
            self.assertIs(road.same_dials(0, None), expected)
            self.assertIs(road.same_dials(None, 1), expected)
            self.assertIs(road.same_dials(1, 2), False)

    def test_cancelled_at_all_dials_but_one(self):
        row = [("repeat", FAR, [("turn", 1), ("step", 1)])]
        back = [("step", -1), ("repeat", FAR - 1, [("turn", -1), ("step", -1)])]
        road = self.road(2, row, back)
        self.assertIs(road.same_dials(0, None), False)
        self.assertEqual((road.dial(0), road.dial(1), road.dial(FAR - 1)), (1, 0, 0))
        road.run("ann", [("turn", 1)])
        self.assertIs(road.same_dials(0, None), True)

    def test_the_one_dial_is_far_from_where_any_round_begins(self):
        for extra, expected in ((0, True), (1, False)):
            single = [("repeat", 2 * 10 ** 29 + extra, [("turn", 1), ("step", 1)]), ("step", -2 * 10 ** 29 - extra)]
            double = [("repeat", 10 ** 29, [("turn", -1), ("step", 1), ("turn", -1), ("step", 1)])]
            road = self.road(2, single, double)
            self.assertIs(road.same_dials(1, 3), expected)
            self.assertEqual(road.dial(2 * 10 ** 29), extra)
            self.assertEqual(road.dial(2 * 10 ** 29 - 1), 0)

    def test_nested_rounds(self):
        one = repeats(10 ** 20, 10 ** 10, body=[("turn", 1), ("step", 1)])
        other = [("repeat", 10 ** 30, [("step", -1), ("turn", -1)])]
        road = self.road(3, one, other)
        self.assertIs(road.same_dials(1, 3), True)
        road = self.road(3, repeats(10 ** 20, 10 ** 10 - 1, body=[("turn", 1), ("step", 1)]), other)
        self.assertIs(road.same_dials(1, 3), False)

    def test_ten_repeats_with_ten_strides(self):
        strides = [3 + 7 * k * 10 ** (2 * k) for k in range(10)]
        there = [[("repeat", 10 ** 9 + k, [("turn", k + 1), ("step", stride)])] for k, stride in enumerate(strides)]
        road = self.road(97, *there)
        self.assertIs(road.same_dials(0, None), False)
        halves = []
        for stride in strides[:5]:
            halves.append([("repeat", 2 * 10 ** 9, [("turn", 1), ("step", stride)])])
            halves.append([("repeat", 10 ** 9, [("step", -stride), ("turn", -1), ("step", -stride), ("turn", -1)])])
        road = self.road(97, *halves)
        self.assertIs(road.same_dials(0, None), True)
        road.run("ann", [("step", 10 ** 9), ("turn", 1)])
        self.assertIs(road.same_dials(0, None), False)

    def test_only_the_runs_between_the_moments_count(self):
        road = self.road(2, *[[("repeat", 5 + k, [("turn", 1), ("step", k + 1)])] * 5 for k in range(30)])
        self.assertIs(road.same_dials(29, 30), False)
        road.run("ann", [])
        self.assertIs(road.same_dials(31, 32), True)


class ManyRunsTest(unittest.TestCase):
    def test_200_runs(self):
        source = Random(4)
        road = Road(97)
        road.enter("ann", 0)
        left = 10
        for at in range(200):
            value = []
            for _ in range(48):
                value += [("turn", source.randint(-FAR, FAR)), ("step", source.randint(-FAR, FAR))]
            if at % 20 == 7:
                left -= 1
                value.append(("repeat", FAR - at, [("turn", 1), ("step", FAR // 3 + at)]))
            road.run("ann", value)
        self.assertEqual(left, 0)
        start = time.perf_counter()
        self.assertEqual(road.dial(0), road.actions()[1][2][0][1] % 97)
        self.assertIs(road.same_dials(0, None), False)
        self.assertIs(road.same_dials(1, 0), True)
        self.assertEqual(len(road.places(100)), 1)
        road.undo()
        self.assertEqual(len(road.actions()), 200)
        self.assertLess(time.perf_counter() - start, 5)

    def test_200_runs_that_cancel(self):
        road = Road(3)
        road.enter("ann", 0)
        for at in range(100):
            road.run("ann", [("turn", 1), ("step", FAR - at)] * 50)
        for at in reversed(range(100)):
            road.run("ann", [("step", at - FAR), ("turn", -1)] * 50)
        start = time.perf_counter()
        self.assertIs(road.same_dials(0, None), True)
        self.assertIs(road.same_dials(0, 200), False)
        self.assertEqual(road.dial(0), 0)
        self.assertEqual(road.dial(0, 200), 1)
        self.assertLess(time.perf_counter() - start, 5)


if __name__ == "__main__":
    unittest.main()
