"""Points 31 and 32: several walkers that share the work."""

import unittest
from itertools import product as choices
from random import Random

from dialroad.walkers import least_steps, plan, plan_steps, unused
from tests.samples import FAR, OTHER_VALUES

EXAMPLE = ([(0, 3), (10, 10)], [5, 12, 6])


def plain_least(tasks, marked):
    """The least total, by trying how far each walker goes to the left and to the right of its own stretch.

    A walker that goes no farther than to l and r crosses the edges outside of its stretch twice.
    """
    places = sorted(set(marked) | {place for task in tasks for place in task})
    ways = []
    for start, end in tasks:
        low, high = min(start, end), max(start, end)
        ways.append([(left, right, high - low + 2 * (low - left) + 2 * (right - high))
                     for left in places if left <= low for right in places if right >= high])
    best = None
    for row in choices(*ways):
        if all(any(left <= place <= right for left, right, _ in row) for place in marked):
            total = sum(steps for _, _, steps in row)
            best = total if best is None else min(best, total)
    return best


def plain_unused(tasks, marked):
    """For each gap the longest part without a marked place strictly inside, by trying all parts."""
    covered = set()
    for task in tasks:
        covered |= set(range(min(task), max(task) + 1))
    ends = sorted(covered)
    found = []
    for low, high in zip(ends, ends[1:]):
        edge_is_in_a_stretch = any(min(task) <= low and high <= max(task) for task in tasks)
        if edge_is_in_a_stretch:
            continue
        parts = [(a, b) for a in range(low, high + 1) for b in range(a + 1, high + 1)
                 if not any(a < place < b for place in marked)]
        found.append(min(parts, key=lambda part: (part[0] - part[1], part[0])))
    return found


def walked(route):
    """Each place that a walker visits, and how many steps it takes, one after the other."""
    places, steps = [route[0]], 0
    for goal in route[1:]:
        while places[-1] != goal:
            places.append(places[-1] + (1 if goal > places[-1] else -1))
            steps += 1
    return set(places), steps


def samples(rounds, most=3, farthest=9):
    """Task lists and marked places."""
    for seed in range(rounds):
        source = Random(seed)
        place = lambda: source.randint(-farthest, farthest)
        tasks = []
        for _ in range(source.randint(1, most)):
            start = place()
            tasks.append((start, source.choice((start, start + source.randint(-3, 3), place()))))
        yield tasks, [place() for _ in range(source.randint(0, 5))]


class LeastTest(unittest.TestCase):
    def test_against_trying_all_ways(self):
        for tasks, marked in samples(400):
            self.assertEqual(least_steps(tasks, marked), plain_least(tasks, marked), (tasks, marked))

    def test_plans_visit_all_marked_places_and_have_that_total(self):
        for tasks, marked in samples(600, 12, 40):
            routes = plan(tasks, marked)
            self.assertEqual([type(routes)] + [type(route) for route in routes], [list] * (len(tasks) + 1))
            self.assertEqual([(route[0], route[-1]) for route in routes], tasks)
            visited = [walked(route) for route in routes]
            self.assertTrue(all(any(place in places for places, _ in visited) for place in marked), (tasks, marked))
            self.assertEqual(sum(steps for _, steps in visited), least_steps(tasks, marked))
            self.assertEqual(plan_steps(tasks, marked, routes), least_steps(tasks, marked))

    def test_no_marked_places(self):
        for tasks, _ in samples(50, 12):
            for marked in ([], ()):
                self.assertEqual(least_steps(tasks, marked), sum(abs(start - end) for start, end in tasks))
                self.assertEqual(plan_steps(tasks, marked, plan(tasks, marked)), least_steps(tasks, marked))

    def test_tuples_duplicates_and_order_of_marked_places(self):
        for tasks, marked in samples(100, 4):
            expected = least_steps(tasks, marked)
            for other in (tuple(marked), marked * 3, marked[::-1], sorted(marked), tuple(marked * 2)):
                self.assertEqual(least_steps(tasks, other), expected)
                self.assertEqual(unused(tasks, other), unused(tasks, marked))
                self.assertEqual(plan_steps(tasks, other, plan(tasks, other)), expected)

    def test_one_task(self):
        self.assertEqual(least_steps([(0, 0)], []), 0)
        self.assertEqual(least_steps([(0, 0)], [-3, 4]), 14)
        self.assertEqual(least_steps([(0, 5)], [-3, 4]), 11)
        self.assertEqual(least_steps([(5, 0)], [-3, 9]), 19)
        self.assertEqual(least_steps([(5, 0)], [3]), 5)

    def test_twelve_tasks_and_far_places(self):
        tasks = [(k * 10 ** 29, k * 10 ** 29 + (k % 3) * 10 ** 28) for k in range(-6, 6)]
        marked = [FAR, -FAR, 5, 10 ** 29 // 2]
        total = least_steps(tasks, marked)
        self.assertEqual(plan_steps(tasks, marked, plan(tasks, marked)), total)
        base = sum(abs(start - end) for start, end in tasks)
        beyond = 2 * (FAR - (5 * 10 ** 29 + 2 * 10 ** 28)) + 2 * (FAR - 6 * 10 ** 29)
        # 5 is near the task at 0, and the other place stands between 0 and 10 ** 29.
        self.assertEqual(total, base + beyond + 2 * (10 ** 29 // 2))
        self.assertEqual(least_steps([(-FAR, FAR)] * 12, [0, FAR, -FAR]), 24 * FAR)
        self.assertEqual(least_steps([(FAR, FAR)], [-FAR]), 4 * FAR)

    def test_two_walkers_with_the_same_end(self):
        for tasks in ([(0, 0), (0, 0)], [(0, 2), (2, 0), (0, 2)], [(0, 3), (0, 1), (3, 3), (2, 3)]):
            for marked in ([-5], [9], [-5, 9], [-1, -5, 9, 20]):
                self.assertEqual(least_steps(tasks, marked), plain_least(tasks, marked))
                self.assertEqual(plan_steps(tasks, marked, plan(tasks, marked)), plain_least(tasks, marked))


class PlanStepsTest(unittest.TestCase):
    def test_plans_of_other_hands(self):
        tasks, marked = EXAMPLE
        for value, expected in (([[0, 6, 3], [10, 12, 10]], 13), ([[0, 3], [10, 5, 12, 10]], 17),
                                ([[0, 12, 3], [10]], 21), ([[0, 3, 3, 3], [10, 10, 4, 13, 10, 10]], 3 + 18),
                                ([[0, 1, 2, 6, 5, 4, 3], [10, 12, 10]], 13), ([[0, 5, 3], [10, 6, 12, 10]], 7 + 12),
                                ([[0, -9, 6, 3], [10, 12, 10]], 31)):
            self.assertEqual(plan_steps(tasks, marked, value), expected)

    def test_one_place_route_or_value_changed(self):
        tasks, marked = EXAMPLE
        for value in ([[0, 5, 3], [10, 12, 10]], [[0, 6, 3], [10, 11, 10]], [[1, 6, 3], [10, 12, 10]],
                      [[0, 6, 4], [10, 12, 10]], [[0, 6, 3], [10, 12, 11]], [[0, 6, 3]], [[10, 12, 10], [0, 6, 3]],
                      [[0, 6, 3], [10, 12, 10], [10]], [[0, 6, 3], []], [[], [10, 12, 10]], [[0, 6, 3], [10]],
                      [[0, 6, 3], [10, 12]], [[0, 6], [10, 12, 10]], [], [[]], [[], []]):
            self.assertIsNone(plan_steps(tasks, marked, value), value)

    def test_every_plan_with_a_place_changed(self):
        found = set()
        for tasks, marked in samples(60):
            routes = plan(tasks, marked)
            for at, route in enumerate(routes):
                for position in range(len(route)):
                    for change in (-1, 1):
                        changed = [list(one) for one in routes]
                        changed[at][position] += change
                        visited = [walked(one) for one in changed]
                        fits = [(one[0], one[-1]) for one in changed] == tasks
                        fits = fits and all(any(place in places for places, _ in visited) for place in marked)
                        expected = sum(steps for _, steps in visited) if fits else None
                        self.assertEqual(plan_steps(tasks, marked, changed), expected)
                        found.add(expected is None)
        self.assertEqual(found, {True, False})

    def test_routes_of_one_place(self):
        self.assertEqual(plan_steps([(4, 4)], [], [[4]]), 0)
        self.assertEqual(plan_steps([(4, 4)], [4, 4], [[4]]), 0)
        self.assertEqual(plan_steps([(4, 4)], (4,), [[4, 4, 4]]), 0)
        self.assertIsNone(plan_steps([(4, 4)], [5], [[4]]))
        self.assertIsNone(plan_steps([(4, 4)], [], [[5]]))
        self.assertIsNone(plan_steps([(4, 5)], [], [[4]]))
        self.assertIsNone(plan_steps([(4, 5)], [], [[5]]))

    def test_values_of_every_kind(self):
        for value in OTHER_VALUES:
            self.assertIsNone(plan_steps([(0, 1)], [], value))
            self.assertIsNone(plan_steps([(0, 1)], [], [value]))
            self.assertIsNone(plan_steps([(0, 1), (1, 1)], [], [[0, 1], value]))
            if not isinstance(value, int) or isinstance(value, bool):
                self.assertIsNone(plan_steps([(0, 1)], [], [[0, value, 1]]))
        for value in (((0, 1),), [(0, 1)], ([0, 1],), [[0, True]], [[False, 1]], [[0, "1"]], [[0, [1], 1]], [[0, None, 1]],
                      {0: [0, 1]}, [[0, 1], [0, 1]], [{0: 0, 1: 1}], "01", ["01"]):
            self.assertIsNone(plan_steps([(0, 1)], [], value), value)
        self.assertEqual(plan_steps([(0, 1)], [], [[0, 1]]), 1)
        self.assertEqual(plan_steps([(0, 1)], [], [[0, 10 ** 99, 1]]), 2 * 10 ** 99 - 1)


class UnusedTest(unittest.TestCase):
    def test_against_trying_all_parts(self):
        for tasks, marked in samples(400, 4):
            self.assertEqual(unused(tasks, marked), plain_unused(tasks, marked), (tasks, marked))

    def test_several_longest_parts(self):
        self.assertEqual(unused([(0, 0), (9, 9)], [3, 6]), [(0, 3)])
        self.assertEqual(unused([(9, 9), (0, 0)], [2, 4, 7]), [(4, 7)])
        self.assertEqual(unused([(0, 0), (8, 8)], [1, 4, 7]), [(1, 4)])
        self.assertEqual(unused([(0, 0), (4, 4)], [1, 2, 3]), [(0, 1)])
        self.assertEqual(unused([(0, 0), (4, 4), (8, 8)], [2, 6]), [(0, 2), (4, 6)])

    def test_touching_and_overlapping_stretches(self):
        self.assertEqual(unused([(0, 3), (3, 5)], [9]), [])
        self.assertEqual(unused([(0, 3), (2, 5), (7, 1)], [9]), [])
        self.assertEqual(unused([(0, 3), (4, 5)], [9]), [(3, 4)])
        self.assertEqual(unused([(0, 9), (2, 3), (12, 12)], [5]), [(9, 12)])
        self.assertEqual(unused([(12, 12), (9, 0), (3, 2)], [11]), [(9, 11)])

    def test_no_gaps(self):
        self.assertEqual(unused([(0, 0)], [5, -5]), [])
        self.assertEqual(unused([(3, -3)], []), [])

    def test_marked_places_at_the_ends_of_a_gap(self):
        self.assertEqual(unused([(0, 2), (6, 9)], [2, 6, 0, 9]), [(2, 6)])

    def test_lists_of_pairs(self):
        for tasks, marked in samples(20, 6):
            found = unused(tasks, marked)
            self.assertIs(type(found), list)
            self.assertTrue(all(type(part) is tuple and len(part) == 2 for part in found))
        self.assertEqual(unused([(-FAR, -FAR), (FAR, FAR)], [1]), [(-FAR, 1)])

    def test_the_total_of_crossing_all_other_edges_twice(self):
        for tasks, marked in samples(200, 4):
            ends = [place for task in tasks for place in task]
            low, high = min(ends + marked), max(ends + marked)
            crossed = {edge for edge in range(low, high)
                       if not any(min(task) <= edge < max(task) for task in tasks)
                       and not any(start <= edge < stop for start, stop in unused(tasks, marked))}
            base = sum(abs(start - end) for start, end in tasks)
            self.assertEqual(least_steps(tasks, marked), base + 2 * len(crossed))


if __name__ == "__main__":
    unittest.main()
