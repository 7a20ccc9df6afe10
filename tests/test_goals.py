"""Points 37 and 38: goals, and as few runs as possible."""

import itertools
import random
import unittest

from alsoshown.courses import Course, apart, fewest, goals, lanes_of, without
from alsoshown.errors import NoLane, NoRun
from checks import CourseCase, random_course
from making import net_of, random_net, ring_net, rows_of
from searching import Nothing, sets_of, shortest_run

# Three ways from s to e: a, then b and c, then d, e1 or e2, and f; g is a loop on the third one.
NET = net_of("s u v w e", "f w e, a s e, b s u, c u e, d s v, e1 v w, e2 v w, g v v, x e e")


def taken_by_one_run(course, wanted):
    """Whether a search of the test's own finds one run that takes all these lanes."""
    return shortest_run(course.net, course.start, course.ends, wanted, Nothing()) is not None


def brings(course, lane, other):
    """Whether every run that takes the lane takes the other one."""
    return lane == other or shortest_run(
        course.net - (other,), course.start, course.ends, [lane], Nothing()) is None


class GoalsTest(CourseCase):
    def test_by_hand(self):
        # x brings nothing but itself, and so does g; d and f are brought by the lanes between them.
        course = Course(NET, "s", ("e",))
        self.assertEqual(goals(course), [("a",), ("b", "c"), ("e1",), ("e2",), ("g",), ("x",)])
        self.assertEqual(goals(Course(NET - ("e2", "g"), "s", ("e",))), [("f", "d", "e1"), ("a",), ("b", "c"), ("x",)])
        self.assertEqual(goals(Course(NET, "s", ("u",))), [("b",)])

    def test_no_lanes(self):
        for start, ends in (("s", ()), ("s", ("s",)), ("e", ("s",)), ("w", ("u",))):
            self.assertEqual(goals(Course(NET, start, ends)), [])

    def test_a_ring(self):
        net = ring_net(6)
        self.assertEqual(goals(Course(net, "p2", ("p2",))), [net.lanes])
        self.assertEqual(goals(Course(net, "p2", ("p5",))), [("l0", "l1", "l5")])

    def test_lanes_that_belong_together_beside_others(self):
        # b and d are taken only with a; a alone is enough to come to the end.
        course = Course(net_of("s u v", "a s u, b u v, d v u, c s u"), "s", ("u",))
        self.assertEqual(goals(course), [("a",), ("b", "d"), ("c",)])

    def test_random_courses(self):
        source = random.Random(370)
        many = set()
        for _ in range(250):
            course = random_course(source, source.randint(1, 6), source.randint(2, 10))
            lanes = lanes_of(course)
            bringing = {lane: {other for other in lanes if brings(course, lane, other)} for lane in lanes}
            sets = []
            for lane in lanes:
                together = tuple(other for other in lanes if other in bringing[lane] and lane in bringing[other])
                outside = [one for one in lanes for other in together if one not in together and other in bringing[one]]
                if not outside and together not in sets:
                    sets.append(together)
            found = goals(course)
            self.assertEqual(found, sets)
            self.enough(course, found, bringing)
            many.add((len(found), max(map(len, found), default=0)))
        self.assertTrue({2, 3, 4} <= {number for number, _ in many})
        self.assertTrue({2, 3, 4} <= {size for _, size in many})

    def enough(self, course, found, bringing):
        """Check that a lane of each goal is enough, and that no goal can be left out."""
        for lane in lanes_of(course):
            self.assertTrue(any(lane in bringing[goal[-1]] for goal in found))
        for goal in found:
            others = [lane for lane in lanes_of(course) if lane not in goal]
            # Runs that take all other lanes, and none of the lanes of the goal.
            for lane in others:
                self.is_run_of(without(course, lane, (goal[0],)), course, [lane])

    def test_courses_near_the_limits(self):
        source = random.Random(371)
        for posts, lanes in ((10, 16), (5, 16), (1, 16), (14, 20)):
            net = random_net(source, posts, lanes)
            course = Course(net, "p0", net.posts[-1:])
            found = goals(course)
            self.assertEqual(sorted({lane for goal in found for lane in goal}), sorted(sum(found, ())))
            for goal in found:
                self.assertTrue(all(brings(course, goal[0], lane) and brings(course, lane, goal[0]) for lane in goal))
        self.assertEqual(goals(Course(random_net(source, 1, 16), "p0", ["p0"])), [(f"l{k}",) for k in range(16)])

    def test_what_is_returned_is_new(self):
        course = Course(NET, "s", ("e",))
        goals(course).clear()
        self.assertEqual(len(goals(course)), 6)
        self.assertIsInstance(goals(course)[0], tuple)


class FewestTest(CourseCase):
    def test_errors(self):
        course = Course(NET, "s", ("u",))
        for operation in (fewest, apart):
            for wanted, name in ((("a", "y", "z"), "y"), (["z", "b"], "z"), (("b", "A"), "A"), (("s",), "s")):
                self.raises(NoLane, name, operation, course, wanted)
            for wanted, name in ((("b", "c", "a"), "c"), (["x"], "x"), (("a", "c"), "a")):
                self.raises(NoRun, name, operation, course, wanted)

    def is_fewest(self, course, wanted):
        """Check what fewest and apart return, and return them."""
        runs, lanes = fewest(course, wanted), apart(course, wanted)
        self.assertIsInstance(runs, list)
        for run in runs:
            self.is_run_of(run, course)
        self.assertTrue(set(wanted) <= {lane for run in runs for lane in run})
        self.assertIsInstance(lanes, tuple)
        self.assertEqual(lanes, tuple(lane for lane in course.net.lanes if lane in lanes))
        self.assertTrue(set(lanes) <= set(wanted))
        for pair in itertools.combinations(lanes, 2):
            self.assertFalse(taken_by_one_run(course, pair))
        # No run takes two of these lanes, so this shows that both are as many and as few as possible.
        self.assertEqual(len(lanes), len(runs))
        return runs, lanes

    def test_by_hand(self):
        course = Course(NET, "s", ("e",))
        for wanted, many in ((("a",), 1), (("a", "x"), 1), (("a", "b"), 2), (["c", "b", "c"], 1),
                             (("e1", "e2", "g"), 2),
                             (("a", "c", "e1", "e2"), 4), (NET.lanes, 4), (("d", "f", "g"), 1), ((), 0), ([], 0)):
            runs, lanes = self.is_fewest(course, wanted)
            self.assertEqual(len(runs), many)
        self.assertEqual(apart(course, ["e2", "a", "c", "e1", "a"]), ("a", "c", "e1", "e2"))
        self.assertEqual((fewest(course, ()), apart(course, ())), ([], ()))

    def test_lanes_in_one_part_need_one_run(self):
        net = net_of("s u v e", "z s e, a s u, b u v, c v u, d u u, e v e")
        course = Course(net, "s", ("e",))
        runs, lanes = self.is_fewest(course, ("b", "d", "c"))
        self.assertEqual(len(runs), 1)
        runs, lanes = self.is_fewest(course, net.lanes)
        self.assertEqual((len(runs), lanes[0]), (2, "z"))

    def test_chains_that_have_to_be_changed(self):
        # Greedy pairs of lanes that follow one another would leave more runs than are needed.
        net = net_of("s p q r t e", "a s p, b s q, c p r, d p t, f q r, g r e, h t e")
        course = Course(net, "s", ("e",))
        for wanted in itertools.permutations(("a", "b", "c", "d")):
            self.assertEqual(len(self.is_fewest(course, wanted)[0]), 3)
        for wanted in itertools.permutations(("a", "b", "g", "h")):
            self.assertEqual(len(self.is_fewest(course, wanted)[0]), 2)

    def test_all_sets_of_lanes_of_random_courses(self):
        source = random.Random(380)
        many = set()
        for number in range(250):
            course = random_course(source, source.randint(2, 7), source.randint(3, 10))
            lanes = lanes_of(course)
            if number % 2:
                # Nets without rounds have more lanes that no run takes together.
                net = net_of("p0 p1 p2 p3 p4 p5", ", ".join(
                    "l{} p{} p{}".format(k, *sorted(source.sample(range(6), 2))) for k in range(9)))
                course = Course(net, "p0", ("p3", "p4", "p5"))
                lanes = lanes_of(course)
            wanted = [source.choice(lanes) for _ in range(source.randint(0, 6))] if lanes else []
            runs, _ = self.is_fewest(course, wanted)
            many.add(len(runs))
            different = tuple(sorted(set(wanted)))
            separate = [row for row in sets_of(different, 0)
                        if not any(taken_by_one_run(course, pair) for pair in itertools.combinations(row, 2))]
            self.assertEqual(max(map(len, separate)), len(runs))
        self.assertTrue({0, 1, 2, 3, 4} <= many)

    def test_courses_near_the_limits(self):
        source = random.Random(381)
        for posts, lanes in ((10, 16), (5, 16), (1, 16), (14, 20)):
            net = random_net(source, posts, lanes, False)
            for start in net.posts[:3]:
                course = Course(net, start, net.posts)
                self.is_fewest(course, lanes_of(course))
        net = net_of("u v", ", ".join(f"l{k} u v" for k in range(16)))
        runs, lanes = self.is_fewest(Course(net, "u", ("v",)), net.lanes)
        self.assertEqual((len(runs), lanes), (16, net.lanes))

    def test_the_course_turned_about(self):
        source = random.Random(382)
        for _ in range(80):
            net = random_net(source, source.randint(2, 6), source.randint(3, 9), source.random() < 0.3)
            start, end = source.sample(net.posts, 2)
            course, back = Course(net, start, (end,)), Course(-net, end, (start,))
            self.assertEqual(goals(course), goals(back))
            wanted = lanes_of(course)
            self.assertEqual(len(fewest(course, wanted)), len(fewest(back, wanted)))
            for run in fewest(back, wanted):
                self.is_run_of(run[::-1], course)
            for pair in itertools.combinations(apart(back, wanted), 2):
                self.assertFalse(taken_by_one_run(course, pair))

    def test_nothing_is_changed(self):
        course, wanted = Course(NET, "s", ("e",)), ["b", "a", "b"]
        apart(course, wanted)
        runs = fewest(course, wanted)
        runs[0].append("y")
        runs.clear()
        self.assertEqual((wanted, rows_of(course.net)), (["b", "a", "b"], rows_of(NET)))
        self.assertEqual(sorted(fewest(course, wanted)), [["a"], ["b", "c"]])


if __name__ == "__main__":
    unittest.main()
