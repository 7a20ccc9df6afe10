"""Points 1, 2, 4, 9, 12, 18, 41, 46, 49 and 50: what is a name, who refuses what is none, and what is an integer."""

import unittest

from alsoshown.asked import Asked, avoiding, never, paper, showing
from alsoshown.books import Book
from alsoshown.courses import Course, suite, together, without
from alsoshown.errors import BadName, BadNumber, EmptyWalk
from alsoshown.longest import detour, grown
from alsoshown.lots import loopholes, settling
from alsoshown.nets import Net
from alsoshown.patterns import any_of, none_of, parting, walk_of, within
from alsoshown.rounds import Round
from alsoshown.shortest import shortest
from alsoshown.watching import Watch
from alsoshown.windows import text_round, windows
from making import net_of

GOOD = ["a", "z", "m", "a0", "z9", "abcdefgh", "a1234567", "a0b0c0d0", "zzzzzzzz"]
BAD = [
    "", "A", "Z", "0", "9", "0a", "aB", "abcdefghi", "a12345678", " ", " a", "a ", "a b", "a\n", "\na", "a\0",
    "a_b", "_a", "a-b", "a.b", "[", "`", "{", "a/", "a:", "a@", "\u00e4", "a\u00e4", "\u0430", "a\u0661", "a\u00b2",
    "\u00df", "\u017f", None, True, False, 0, 1, 7, 1.5, b"a", ("a",), ["a"], {"a": 1}, {"a"}, object(),
]


class NamesTest(unittest.TestCase):
    def test_names_of_posts_and_lanes(self):
        for name in GOOD:
            net = Net()
            net.post(name)
            net.lane(name, name, name)
            self.assertEqual((net.posts, net.lanes), ((name,), (name,)))

    def test_what_is_no_name_of_a_post(self):
        for name in BAD:
            net = net_of("u")
            with self.assertRaises(BadName, msg=repr(name)) as caught:
                net.post(name)
            self.assertIs(caught.exception.name, name)
            self.assertEqual(net.posts, ("u",))

    def test_what_is_no_name_of_a_lane(self):
        for name in BAD:
            net = net_of("u")
            with self.assertRaises(BadName, msg=repr(name)) as caught:
                net.lane(name, "u", "u")
            self.assertIs(caught.exception.name, name)
            self.assertEqual(net.lanes, ())

    def test_names_in_rounds(self):
        self.assertEqual(Round(GOOD).lanes, tuple(GOOD))
        for name in BAD:
            with self.assertRaises(BadName, msg=repr(name)) as caught:
                Round(("a", name, "B"))
            self.assertIs(caught.exception.name, name)

    def test_names_in_patterns(self):
        for function in (any_of, none_of, walk_of):
            self.assertEqual(function(*GOOD).names, tuple(sorted(GOOD)))
            for name in BAD:
                with self.assertRaises(BadName, msg=repr(name)) as caught:
                    function("a", name, "B")
                self.assertIs(caught.exception.name, name)

    def test_names_of_patterns_that_are_kept(self):
        for kept in (Watch(Net()), Book()):
            for name in GOOD:
                kept[name] = ("a",)
            self.assertEqual(kept.names, tuple(GOOD))
            for name in BAD:
                with self.assertRaises(BadName, msg=repr(name)) as caught:
                    kept[name] = ("a",)
                self.assertIs(caught.exception.name, name)

    def test_names_in_tuples_that_stand_for_patterns(self):
        net = net_of("u", "a u u, b u u")
        asked = Asked(net, ("a",))
        takers = [asked, lambda lanes: within(lanes, ()), lambda lanes: parting(none_of(), lanes),
                  lambda lanes: detour(net, lanes)]
        takers += [lambda lanes, taker=taker: taker(asked, lanes)
                   for taker in (showing, avoiding, paper, never, grown, loopholes, settling, shortest)]
        course = Course(net, "u", ("u",))
        takers += [lambda lanes, taker=taker: taker(course, "a", lanes) for taker in (without, suite, together)]
        takers += [lambda lanes, kept=kept: kept.__setitem__("x", lanes) for kept in (Watch(net), Book())]
        for taker in takers:
            with self.assertRaises(EmptyWalk):
                taker(())
            for name in BAD:
                with self.assertRaises(BadName, msg=repr(name)) as caught:
                    taker(("a", name, "B"))
                self.assertIs(caught.exception.name, name)

    def test_none_at_all(self):
        for function in (any_of, walk_of, lambda: Round(())):
            with self.assertRaises(EmptyWalk):
                function()
        self.assertEqual(none_of().names, ())

    def test_true_and_false_are_no_integers(self):
        ring, pattern = Round(("a", "b")), any_of("a")
        for operation in (lambda n: ring[n], lambda n: ring * n, lambda n: ring << n, lambda n: pattern * n,
                          Watch(Net()).back, lambda n: windows("a", n), lambda n: text_round("a", n)):
            for wrong in (True, False):
                with self.assertRaises(BadNumber) as caught:
                    operation(wrong)
                self.assertIs(caught.exception.value, wrong)


if __name__ == "__main__":
    unittest.main()
