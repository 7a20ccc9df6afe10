"""Points 13, 18, 33 to 36 and 39: single runs, with and without lanes and patterns."""

import random
import unittest

from alsoshown.courses import Course, gate, lanes_of, suite, together, without
from alsoshown.errors import BadName, Brought, EmptyWalk, NoLane, NoRun, SameLane
from alsoshown.patterns import Pattern, any_of, none_of, optional, repeated, walk_of
from checks import CourseCase, random_course
from making import net_of, random_net, random_walk, rows_of
from searching import Nothing, shortest_run
from trees import Reader, built, random_tree, turned, walk

# As in test_courses: from s through u or straight to e; w is a dead end, and nothing leads to x.
NET = net_of("x s u e w", "f w w, a s u, b u e, c s e, d e u, g u w, h x s, k e e")


def some_tree(source, net):
    """A pattern of some lanes of the net, or a walk of it."""
    if source.random() < 0.4:
        return walk(random_walk(source, net, source.randint(1, 3)))
    return random_tree(source, [*net.lanes, "x"], source.randint(1, 4))


class ErrorsTest(CourseCase):
    def setUp(self):
        self.course = Course(NET, "s", ("e",))

    def test_what_is_no_pattern_comes_first(self):
        for operation in (lambda pattern: without(self.course, "y", pattern),
                          lambda pattern: suite(self.course, ("y",), pattern),
                          lambda pattern: together(self.course, ("y",), pattern),
                          lambda pattern: suite(self.course, (), pattern)):
            for lanes in ((), []):
                with self.assertRaises(EmptyWalk):
                    operation(lanes)
            for lanes, wrong in ((("A", "B"), "A"), (["a", 7], 7), (("a", ""), "")):
                self.raises(BadName, wrong, operation, lanes)

    def test_then_strangers_among_the_lanes(self):
        for pattern in (any_of("a"), ("a",), optional(any_of("a"))):
            self.raises(NoLane, "y", without, self.course, "y", pattern)
            self.raises(NoLane, "u", without, self.course, "u", pattern)
            for wanted, name in ((("h", "y", "z"), "y"), (["z", "h"], "z"), (("c", "A"), "A"), (("a", "b", "e"), "e")):
                self.raises(NoLane, name, suite, self.course, wanted, pattern)
                self.raises(NoLane, name, together, self.course, wanted, pattern)
        self.raises(NoLane, "y", together, self.course, ("h", "y"))
        self.raises(NoLane, "y", gate, self.course, "y", "z")
        self.raises(NoLane, "z", gate, self.course, "h", "z")
        self.raises(NoLane, "z", gate, self.course, "z", "z")

    def test_then_lanes_that_no_run_takes(self):
        for pattern in (any_of("a"), ("a",), optional(any_of("a"))):
            for lane in "fgh":
                self.raises(NoRun, lane, without, self.course, lane, pattern)
            for wanted, name in ((("a", "h", "f"), "h"), (["g"], "g"), (("f", "a", "g"), "f")):
                self.raises(NoRun, name, suite, self.course, wanted, pattern)
        for lane in "fgh":
            self.raises(SameLane, lane, gate, self.course, lane, lane)
            self.raises(NoRun, lane, gate, self.course, lane, "a")
        self.raises(SameLane, "a", gate, self.course, "a", "a")
        self.assertIsNone(gate(self.course, "a", "h"))

    def test_then_lanes_that_bring_the_pattern(self):
        for wanted, pattern, name in ((("c", "a", "b"), ("a",), "a"), (["c", "b", "a"], any_of("a", "d"), "b"),
                                      (("c", "d"), none_of("c"), "d"), (("k", "c"), optional(any_of("x")), "k"),
                                      (("c", "c", "k"), ["c"], "c"), (["a", "a"], walk_of("a", "b"), "a")):
            self.raises(Brought, name, suite, self.course, wanted, pattern)
        # d is brought by no lane but itself, so b is gone without it, but not without a or d.
        self.assertEqual(suite(self.course, ("b",), ("d",)), [["a", "b"]])


class WithoutTest(CourseCase):
    def test_by_hand(self):
        course = Course(NET, "s", ("e",))
        for lane, pattern, run in (("b", ("d",), ["a", "b"]), ("b", ["a"], ["c", "d", "b"]), ("c", any_of("b"), ["c"]),
                                   ("k", ("c",), ["a", "b", "k"]), ("a", none_of("a", "b"), ["a", "b"])):
            self.assertEqual(without(course, lane, pattern), run)
        for lane, pattern in (("a", ("a",)), ("a", ("a", "b")), ("b", any_of("a", "d")), ("d", ["d", "b"]),
                              ("c", none_of()),
                              ("c", none_of() * 1), ("k", any_of("c", "b") + repeated(none_of("k")) + any_of("k"))):
            self.assertIsNone(without(course, lane, pattern))

    def test_each_lane_brings_itself(self):
        source = random.Random(330)
        for _ in range(60):
            course = random_course(source, 4, 8)
            for lane in lanes_of(course):
                self.assertIsNone(without(course, lane, (lane,)))

    def test_the_empty_word(self):
        course = Course(NET, "s", ("e", "s"))
        for pattern in (optional(any_of("x")), repeated(any_of("x")), Pattern.read("(x)* (y)?")):
            self.assertIsNone(without(course, "c", pattern))
            self.assertIsNone(together(course, (), pattern))
            self.assertIsNone(together(course, ("c",), pattern))
            self.assertEqual(suite(course, (), pattern), [])

    def test_random_courses(self):
        source = random.Random(331)
        counts = [0, 0]
        for _ in range(250):
            course = random_course(source, source.randint(1, 5), source.randint(2, 8))
            tree = some_tree(source, course.net)
            reader, pattern = Reader(tree), built(tree)
            bringing = []
            for lane in lanes_of(course):
                run = without(course, lane, pattern)
                expected = shortest_run(course.net, course.start, course.ends, [lane], reader)
                counts[expected is None] += 1
                if expected is None:
                    bringing.append(lane)
                    self.assertIsNone(run)
                else:
                    self.is_run_of(run, course, [lane], reader)
            self.has_suite(source, course, bringing, reader, pattern)
        self.assertGreater(min(counts), 100)

    def has_suite(self, source, course, bringing, reader, pattern):
        """Check the suite of some lanes, of which these ones bring the pattern."""
        lanes = lanes_of(course)
        wanted = [source.choice(lanes) for _ in range(source.randint(0, 4))] if lanes else []
        wrong = [lane for lane in wanted if lane in bringing]
        if wrong:
            self.raises(Brought, wrong[0], suite, course, wanted, pattern)
            return
        runs = suite(course, tuple(wanted), pattern)
        self.assertIsInstance(runs, list)
        self.assertEqual(len(runs), len(wanted))
        for lane, run in zip(wanted, runs):
            self.is_run_of(run, course, [lane], reader)

    def test_courses_near_the_limits(self):
        source = random.Random(332)
        for posts, lanes in ((10, 16), (4, 16), (1, 16), (12, 20)):
            course = Course(random_net(source, posts, lanes), "p0", ("p0",))
            for text in ("[l0 l1 l2 l3] . . . . . . . . . . x", "l1 ([^l2])* (l3 | l4 (.)?) l5 (l6)* [l7 l8] l9"):
                runs = suite(course, course.net.lanes[:12], Pattern.read(text))
                for lane, run in zip(course.net.lanes, runs):
                    self.is_run_of(run, course, [lane])

    def test_nothing_is_changed(self):
        course, wanted, lanes = Course(NET, "s", ("e",)), ["c", "b"], ["d"]
        runs = suite(course, wanted, lanes)
        runs[0].append("y")
        runs.clear()
        without(course, "c", lanes).clear()
        self.assertEqual(suite(course, wanted, lanes), [["c"], ["a", "b"]])
        self.assertEqual((wanted, lanes, rows_of(course.net)), (["c", "b"], ["d"], rows_of(NET)))


class GateTest(CourseCase):
    def is_gate(self, course, lane, other, found):
        """Check a gate: which posts it has, and that only the other lane leads out of them."""
        side, posts = found
        net = course.net
        self.assertIsInstance(found, tuple)
        self.assertIsInstance(posts, tuple)
        self.assertEqual(len(posts), len(set(posts)))
        self.assertTrue(set(posts) <= set(net.posts))
        leading = [one for one in net.lanes if net.start_of(one) in posts and net.end_of(one) not in posts]
        self.assertEqual(leading, [other])
        if side == "before":
            self.assertIn(course.start, posts)
            self.assertNotIn(net.start_of(lane), posts)
        else:
            self.assertEqual(side, "behind")
            self.assertIn(net.end_of(lane), posts)
            self.assertFalse(set(posts) & set(course.ends))

    def test_by_hand(self):
        course = Course(net_of("s u v e", "a s u, b u v, c v e, d u u, f v u"), "s", ("e",))
        for lane, other, side, posts in (("c", "b", "before", {"s", "u"}), ("b", "a", "before", {"s"}),
                                         ("a", "c", "behind", {"u", "v"}), ("d", "c", "behind", {"u", "v"}),
                                         ("f", "c", "behind", {"u", "v"}), ("d", "a", "before", {"s"})):
            found = gate(course, lane, other)
            self.assertEqual((found[0], set(found[1])), (side, posts))
            self.is_gate(course, lane, other, found)
        # b is taken behind d, but only d alone may be left out.
        self.is_gate(course, "d", "b", gate(course, "d", "b"))
        for lane in "abcf":
            self.assertIsNone(gate(course, lane, "d"))
        self.assertIsNone(gate(course, "b", "f"))

    def test_random_courses(self):
        source = random.Random(340)
        counts = {"before": 0, "behind": 0, None: 0}
        for _ in range(250):
            course = random_course(source, source.randint(1, 6), source.randint(2, 9))
            net, taken = course.net, lanes_of(course)
            for lane in net.lanes:
                for other in net.lanes:
                    if lane == other:
                        self.raises(SameLane, lane, gate, course, lane, other)
                        continue
                    if lane not in taken:
                        self.raises(NoRun, lane, gate, course, lane, other)
                        continue
                    found = gate(course, lane, other)
                    kept = net - (other,)
                    self.assertEqual(
                        found is None, shortest_run(kept, course.start, course.ends, [lane], Nothing()) is not None)
                    self.assertEqual(found is None, without(course, lane, (other,)) is not None)
                    counts[found and found[0]] += 1
                    if found is not None:
                        self.is_gate(course, lane, other, found)
        self.assertGreater(min(counts.values()), 100)


class TogetherTest(CourseCase):
    def test_by_hand(self):
        course = Course(NET, "s", ("e",))
        for wanted, pattern, count in (((), None, 1), (("a",), None, 2), (("c", "b"), None, 3), (["k", "k"], None, 2),
                                       (("a", "c"), None, None), ((), ("c",), 2), (("d",), ("c",), 4),
                                       (("b",), ["a"], 3),
                                       (("b",), any_of("a", "d"), None), (("h",), None, None),
                                       (("d", "k"), ("d", "k"), 4),
                                       ((), none_of(), None), ([], none_of() * 2, 1), (("k",), none_of() * 2, None)):
            run = together(course, wanted) if pattern is None else together(course, wanted, pattern)
            if count is None:
                self.assertIsNone(run)
            else:
                self.is_run_of(run, course, wanted)
                self.assertEqual(len(run), count)

    def test_no_pattern_is_none(self):
        course = Course(NET, "s", ("e",))
        self.assertEqual(together(course, ("b",), None), together(course, ("b",)))

    def test_no_lanes(self):
        for start, ends, expected in (("s", ("s", "e"), []), ("w", ("w",), []), ("s", (), None), ("w", ("e",), None),
                                      ("x", ["s"], ["h"])):
            course = Course(NET, start, ends)
            self.assertEqual(together(course, ()), expected)
            self.assertEqual(together(course, [], ("y",)), expected)

    def test_random_courses(self):
        source = random.Random(350)
        counts = [0, 0]
        for number in range(400):
            course = random_course(source, source.randint(1, 5), source.randint(2, 9))
            net = course.net
            tree = some_tree(source, net)
            reader = Reader(tree) if number % 3 else Nothing()
            wanted = [source.choice(lanes_of(course) or net.lanes) for _ in range(source.randint(0, 5))]
            run = together(course, wanted, built(tree)) if number % 3 else together(course, wanted)
            expected = shortest_run(net, course.start, course.ends, wanted, reader)
            counts[expected is None] += 1
            if expected is None:
                self.assertIsNone(run)
            else:
                self.is_run_of(run, course, wanted, reader)
                self.assertEqual(len(run), expected)
        self.assertGreater(min(counts), 80)

    def test_courses_near_the_limits(self):
        source = random.Random(351)
        for posts in (10, 5, 2, 1):
            net = random_net(source, posts, 16)
            course = Course(net, "p0", net.posts[:2])
            for text in ("[l0 l1 l2 l3 l4 l5] . . . x", ". l1 . l2 .", "l0 ((l1 | [^l3 l4]))* [l5 l6]"):
                pattern, wanted = Pattern.read(text), source.sample(net.lanes, 5)
                run = together(course, wanted, pattern)
                if run is not None:
                    self.is_run_of(run, course, wanted)
                self.is_run_of(together(course, wanted), course, wanted)

    def test_lists_that_are_passed_are_not_changed(self):
        course, wanted, lanes = Course(NET, "s", ("e",)), ["b", "b"], ["a"]
        together(course, wanted, lanes).append("y")
        self.assertEqual((wanted, lanes), (["b", "b"], ["a"]))
        self.assertEqual(together(course, wanted, lanes), ["c", "d", "b"])


class TurnedTest(CourseCase):
    def test_a_course_turned_about(self):
        source = random.Random(360)
        for _ in range(120):
            net = random_net(source, source.randint(1, 5), source.randint(2, 8), source.random() < 0.5)
            start, end = source.choice(net.posts), source.choice(net.posts)
            course, back = Course(net, start, (end,)), Course(-net, end, (start,))
            tree = some_tree(source, net)
            pattern = built(tree)
            self.assertEqual(lanes_of(course), lanes_of(back))
            wanted = [source.choice(net.lanes) for _ in range(2)]
            one, two = together(course, wanted, pattern), together(back, wanted, -pattern)
            self.assertEqual(one is None, two is None)
            if one is not None:
                self.assertEqual(len(one), len(two))
                self.is_run_of(two[::-1], course, wanted, Reader(tree))
                self.is_run_of(one[::-1], back, wanted, Reader(turned(tree)))
            for lane in lanes_of(course):
                self.assertEqual(without(course, lane, pattern) is None, without(back, lane, -pattern) is None)
                for other in net.lanes:
                    if other != lane:
                        self.assertEqual(gate(course, lane, other) is None, gate(back, lane, other) is None)


if __name__ == "__main__":
    unittest.main()
