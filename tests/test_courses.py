"""Points 32 and 33: courses, and what their runs are."""

import random
import unittest

from alsoshown.courses import Course, lanes_of
from alsoshown.errors import NoPost
from checks import CourseCase, random_course
from making import net_of, ring_net, rows_of
from searching import Nothing, shortest_run

# From s through u or straight to e, which is left again; w is a dead end, and nothing leads to x.
NET = net_of("x s u e w", "f w w, a s u, b u e, c s e, d e u, g u w, h x s, k e e")


class MakingTest(CourseCase):
    def test_strangers(self):
        for start, ends, name in (("y", ("e", "z"), "y"), ("s", ("e", "z", "y"), "z"), ("a", ["b"], "a"),
                                  ("", ("",), ""),
                                  ("s", ["A"], "A"), ("s", ("e", "a"), "a"), ("y", (), "y")):
            self.raises(NoPost, name, Course, NET, start, ends)
        self.raises(NoPost, "u", Course, net_of(""), "u", ())

    def test_start_and_ends(self):
        for ends, expected in ((("u", "s", "u", "x", "s"), ("x", "s", "u")), (["w", "w"], ("w",)), ((), ()), ([], ()),
                               (NET.posts[::-1], NET.posts)):
            course = Course(NET, "s", ends)
            self.assertEqual((course.start, course.ends), ("s", expected))
            self.assertIsInstance(course.ends, tuple)

    def test_what_was_passed_may_be_changed_afterwards(self):
        net, ends = NET.copy(), ["e"]
        course = Course(net, "s", ends)
        self.assertEqual((rows_of(net), ends), (rows_of(NET), ["e"]))
        net.cut("a")
        net.post("y")
        ends.append("w")
        self.assertEqual((course.ends, rows_of(course.net)), (("e",), rows_of(NET)))
        self.assertIn(["a", "b"], course)
        self.assertEqual(len(course), 5)

    def test_the_net_that_is_returned_is_a_copy(self):
        course = Course(NET, "s", ("e",))
        course.net.cut("a")
        course.net.post("y")
        self.assertEqual(rows_of(course.net), rows_of(NET))
        self.assertIsNot(course.net, course.net)
        self.assertIn(["a", "b"], course)


class RunsTest(CourseCase):
    def test_what_is_a_run(self):
        course = Course(NET, "s", ("e", "w"))
        for run in ("c", "ab", "abk", "ck", "cdb", "ag", "agff", "abkkdgf", "cdbdg"):
            self.assertIs(list(run) in course, True)
            self.assertIs(tuple(run) in course, True)
            # A string is no tuple of names, although it goes through the same letters.
            self.assertIs(run in course, False)

    def test_what_is_none(self):
        course = Course(NET, "s", ("e", "w"))
        for wrong in ([], (), ["a"], ["b"], ["h", "c"], ["c", "b"], ["c", "y"], ["y"], ["c", "c"], ["k"], ["c", "d"],
                      ["ab"], ["A"], [""], ["c", 1], [None], [True], [["c"]], [("c",)], [{}], [b"c"], ("c", ["k"]), "c",
                      "", None, 0, 1, True, {}, {"c": 1}, {"c"}, b"c", course, NET, range(0), iter(["c"])):
            self.assertIs(wrong in course, False, wrong)

    def test_the_empty_run(self):
        for start, ends, expected in (("s", ("e",), False), ("s", ("e", "s"), True), ("w", ["w"], True),
                                      ("w", (), False)):
            course = Course(NET, start, ends)
            self.assertIs([] in course, expected)
            self.assertIs(() in course, expected)

    def test_no_ends(self):
        course = Course(NET, "s", ())
        self.assertEqual((lanes_of(course), len(course), ["c"] in course, [] in course), ((), 0, False, False))

    def test_lanes_that_some_run_takes(self):
        for start, ends, expected in (("s", ("e",), "abcdk"), ("s", ["u"], "abcdk"), ("s", ("w",), "fabcdgk"),
                                      ("w", ("w",), "f"),
                                      ("s", ("s",), ""), ("x", ("s",), "h"), ("w", ("e",), ""),
                                      ("x", ("e", "x"), "abcdhk"),
                                      ("e", ("e", "s"), "bdk")):
            course = Course(NET, start, ends)
            self.assertEqual(lanes_of(course), tuple(expected))
            self.assertEqual(len(course), len(expected))

    def test_a_course_goes_on_behind_an_end(self):
        course = Course(net_of("s e", "a s e, b e s"), "s", ("e",))
        self.assertEqual(lanes_of(course), ("a", "b"))
        self.assertIn(["a", "b", "a"], course)
        self.assertNotIn(["a", "b"], course)

    def test_random_courses(self):
        source = random.Random(320)
        for _ in range(150):
            course = random_course(source, source.randint(1, 6), source.randint(1, 10))
            net = course.net
            expected = [lane for lane in net.lanes
                        if shortest_run(net, course.start, course.ends, [lane], Nothing()) is not None]
            self.assertEqual((lanes_of(course), len(course)), (tuple(expected), len(expected)))

    def test_walks_of_random_courses(self):
        source = random.Random(321)
        found = [0, 0]
        for _ in range(200):
            course = random_course(source, 3, 5)
            lanes = [source.choice(course.net.lanes) for _ in range(source.randint(1, 3))]
            ends = [course.net.end_of(lane) for lane in lanes]
            starts = [course.net.start_of(lane) for lane in lanes]
            expected = starts == [course.start, *ends[:-1]] and ends[-1] in course.ends
            self.assertIs(lanes in course, expected)
            found[expected] += 1
        self.assertGreater(min(found), 5)

    def test_long_courses(self):
        course = Course(ring_net(14), "p0", ("p13",))
        run = [f"l{k % 14}" for k in range(13 + 14 * 3)]
        self.assertIn(run, course)
        self.assertNotIn(run[:-1], course)
        self.assertEqual(len(course), 14)

    def test_a_course_is_not_iterated_over(self):
        with self.assertRaises(TypeError):
            list(Course(NET, "s", ("e",)))


if __name__ == "__main__":
    unittest.main()
