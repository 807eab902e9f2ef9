"""Point 5: what the modules promise together."""

import unittest
from random import Random

from dialroad.conjugacy import conjugacy_name, conjugator
from dialroad.effects import apply, compose, inverse, power
from dialroad.far import first_difference, value_at
from dialroad.lengths import certifies_length, length, length_certificate, shortest_program
from dialroad.notation import format_program, parse_program
from dialroad.programs import effect_of, shift_of
from dialroad.road import Road
from dialroad.roots import commute, root
from dialroad.rules import Rules
from dialroad.sets import Effects
from dialroad.storage import load, save
from dialroad.walkers import least_steps, plan, unused
from tests.plain import holds, some_list
from tests.samples import PRIMES, program, ran


def programs(seed, many=3):
    """Small programs."""
    return [program(100 * seed + k, 3, 2, 3) for k in range(many)]


def back(prime, one):
    """A program that takes a program back."""
    return shortest_program(prime, inverse(prime, effect_of(prime, one)))


def put_together(seed, prime, given):
    """A program put together from programs of a list and from programs that take them back."""
    source = Random(seed)
    whole = []
    for _ in range(source.randint(0, 4)):
        one = source.choice(given)
        whole.extend(one if source.random() < 0.5 else back(prime, one))
    return whole


class WholeTest(unittest.TestCase):
    def test_every_two_programs(self):
        found = set()
        for prime in PRIMES:
            for seed in range(40):
                one, other = programs(seed, 2)
                for rewritten in (other, shortest_program(prime, effect_of(prime, one))):
                    difference = first_difference(prime, one, rewritten)
                    for place in (-7, 0, 5):
                        dials, end = ran(prime, one, None, place)
                        others, stop = ran(prime, rewritten, None, place)
                        self.assertEqual((dials, end) == (others, stop), difference is None)
                        if difference is not None and difference[0] == "dial":
                            least = min(at for at in dials.keys() | others.keys() if dials.get(at) != others.get(at))
                            self.assertEqual(difference, ("dial", least - place, dials.get(least, 0), others.get(least, 0)))
                        elif difference is not None:
                            self.assertEqual(dials, others)
                            self.assertEqual(difference, ("shift", end - place, stop - place))
                    found.add(difference and difference[0])
        self.assertEqual(found, {None, "dial", "shift"})

    def test_shortest_programs_leave_the_same_road(self):
        for prime in PRIMES:
            for seed in range(30):
                one = programs(seed, 1)[0]
                effect = effect_of(prime, one)
                short = shortest_program(prime, effect)
                self.assertEqual(ran(prime, short, {}, seed), ran(prime, one, {}, seed))
                self.assertEqual(len(short), length(prime, effect))
                self.assertIs(certifies_length(prime, effect, len(short), length_certificate(prime, effect)), True)
                if len(short) <= 100:
                    roads = [Road(prime), Road(prime)]
                    for road, value in zip(roads, (one, short)):
                        road.enter("ann", seed)
                        road.run("ann", value)
                    self.assertEqual(roads[0].places(), roads[1].places())
                    self.assertEqual([roads[0].dial(at) for at in range(-40, 70)],
                                     [roads[1].dial(at) for at in range(-40, 70)])

    def test_programs_put_together_have_recipes(self):
        for prime in PRIMES:
            for seed in range(15):
                given = programs(seed)
                effects = [effect_of(prime, one) for one in given]
                if max([abs(at) for poly, shift in effects for at in [shift] + [place for place, _ in poly]]) > 24:
                    continue
                some = Effects(prime, effects)
                for more in range(4):
                    effect = effect_of(prime, put_together(more, prime, given))
                    value = some.certificate(effect)
                    self.assertEqual(value[0], "recipe")
                    self.assertTrue(holds(prime, effects, effect, value))
                    self.assertIs(some.checks(effect, value), True)

    def test_exactly_one_of_two_certificates(self):
        found = []
        for prime in PRIMES:
            for seed in range(25):
                effects = some_list(seed, prime, 5, 3)
                some = Effects(prime, effects)
                for more in range(4):
                    effect = effect_of(prime, programs(seed + more, 1)[0])
                    value = some.certificate(effect)
                    self.assertTrue(holds(prime, effects, effect, value))
                    self.assertEqual(value[0] == "recipe", some.contains(effect))
                    found.append(value[0])
        self.assertGreater(min(found.count("recipe"), found.count("barrier")), 20)

    def test_conjugates_roots_and_effects_that_commute(self):
        for prime in PRIMES:
            for seed in range(20):
                one, x = [effect_of(prime, value) for value in programs(seed, 2)]
                other = compose(prime, compose(prime, inverse(prime, x), one), x)
                found = conjugator(prime, one, other)
                self.assertEqual(compose(prime, compose(prime, inverse(prime, found), one), found), other)
                self.assertEqual(conjugacy_name(prime, one), conjugacy_name(prime, other))
                if one[1]:
                    of_root, count = root(prime, one)
                    self.assertEqual(power(prime, of_root, count), one)
                    self.assertIs(commute(prime, one, of_root), True)
                    self.assertEqual(conjugator(prime, one, compose(prime, one, (((0, 1),), 0))), None)

    def test_members_are_the_same_as_the_identity_under_the_list_as_rules(self):
        for prime in PRIMES:
            for seed in range(15):
                effects = some_list(seed, prime, 4, 3)
                some, rules = Effects(prime, effects), Rules(prime, effects)
                for effect in [(row, 0) for row in some.basis()] + [some.translation()] + effects:
                    self.assertIs(rules.same(effect, ((), 0)), True)
                    self.assertIs(rules.checks(effect, rules.certificate(effect)), True)
                if some.cosets() is not None:
                    self.assertEqual(some.cosets() % rules.classes(), 0)

    def test_several_walkers_share_the_turns_of_an_effect(self):
        for seed in range(60):
            poly, shift = effect_of(97, programs(seed, 1)[0])
            marked = [place for place, _ in poly]
            # One walker alone takes as many steps as the shortest program.
            steps = [one for one in shortest_program(97, (poly, shift)) if one[0] == "step"]
            self.assertEqual(least_steps([(0, shift)], marked), len(steps))
            tasks = [(0, shift), (shift + 9, shift + 9), (-12, -14)]
            routes = plan(tasks, marked)
            for start, stop in unused(tasks, marked):
                for route in routes:
                    self.assertTrue(max(route) <= start or min(route) >= stop)

    def test_a_road_shows_what_running_its_programs_one_by_one_would_show(self):
        for prime in PRIMES:
            for seed in range(12):
                road, dials, places = Road(prime), {}, {"ann": seed, "bob": -seed}
                road.enter("ann", seed)
                road.enter("bob", -seed)
                for at, one in enumerate(programs(seed, 5)):
                    name = ("ann", "bob")[(seed + at) % 2]
                    road.run(name, parse_program(format_program(one)))
                    dials, places[name] = apply(prime, effect_of(prime, one), dials, places[name])
                    if at % 2:
                        road.undo()
                        road.redo()
                again = load(save(road))
                self.assertIs(again == road, True)
                for shown in (road, again):
                    self.assertEqual(shown.places(), places)
                    self.assertEqual([shown.dial(place) for place in range(-80, 81)],
                                     [dials.get(place, 0) for place in range(-80, 81)])

    def test_one_run_from_place_0_is_what_far_runs_say(self):
        for seed in range(40):
            one = program(seed, 4, 10 ** 30, 10 ** 30)
            road = Road(5)
            road.enter("ann", 0)
            road.run("ann", one)
            self.assertEqual(road.places(), {"ann": shift_of(one)})
            for place in (0, 1, -10 ** 30, shift_of(one)):
                self.assertEqual(road.dial(place), value_at(5, one, place))
            difference = first_difference(5, one, [])
            self.assertIs(road.same_dials(0, None), difference is None or difference[0] == "shift")


if __name__ == "__main__":
    unittest.main()
