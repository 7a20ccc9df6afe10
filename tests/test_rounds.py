"""Points 2 and 9 to 11: rounds."""

import itertools
import unittest

from alsoshown.errors import BadName, BadNumber, EmptyWalk
from alsoshown.nets import Net
from alsoshown.rounds import Round, fits
from making import net_of, rows_of, small_nets

NO_INTEGERS = [None, True, False, "1", "", 1.0, (1,), [1], b"1", {}, object()]
HUGE = 10 ** 59 + 7


def small_rounds(most=6, lanes="ab"):
    """The lanes of all rounds of at most so many lanes."""
    for many in range(1, most + 1):
        yield from itertools.product(lanes, repeat=many)


def turns(lanes):
    """The lanes of all rounds that go as this one and begin somewhere."""
    return [lanes[k:] + lanes[:k] for k in range(len(lanes))]


class MakingTest(unittest.TestCase):
    def test_lanes_are_kept_as_they_were_passed(self):
        self.assertEqual(Round(("b", "a", "b")).lanes, ("b", "a", "b"))
        self.assertEqual(Round(["b", "a"]).lanes, ("b", "a"))
        self.assertIsInstance(Round(["b", "a"]).lanes, tuple)
        self.assertEqual([len(Round(("a",) * n)) for n in (1, 2, 200, 260)], [1, 2, 200, 260])

    def test_a_list_that_is_changed_afterwards_has_no_effect(self):
        lanes = ["a", "b"]
        ring = Round(lanes)
        lanes.append("c")
        lanes[0] = "d"
        self.assertEqual((ring.lanes, len(ring), ring[0]), (("a", "b"), 2, "a"))

    def test_no_lanes(self):
        for lanes in ((), []):
            with self.assertRaises(EmptyWalk):
                Round(lanes)

    def test_the_first_one_that_is_not_a_name(self):
        for lanes, wrong in ((("a", "B", "C"), "B"), (("",), ""), (["a", 5, "B"], 5), (("a", None), None)):
            with self.assertRaises(BadName) as caught:
                Round(lanes)
            self.assertEqual(caught.exception.name, wrong)


class NumberedTest(unittest.TestCase):
    def test_lanes_in_both_directions(self):
        ring = Round(("a", "b", "c"))
        self.assertEqual([ring[k] for k in range(-7, 8)], list("cabcabcabcabcab"))
        self.assertEqual([ring[k] for k in (0, 1, 2, 3, -1, -3, -4)], ["a", "b", "c", "a", "c", "a", "c"])

    def test_numbers_far_outside(self):
        ring = Round(("a", "b", "c"))
        for number in (HUGE, -HUGE, 3 * HUGE, -3 * HUGE, 3 * HUGE - 1, 10 ** 60 - 1):
            self.assertEqual(ring[number], ring.lanes[number % 3])
        self.assertEqual((ring[3 * HUGE], ring[-3 * HUGE], ring[3 * HUGE - 1]), ("a", "a", "c"))
        self.assertEqual([Round(("a",))[k] for k in (0, 5, -5, HUGE)], ["a"] * 4)

    def test_numbers_that_are_none(self):
        for wrong in NO_INTEGERS + [slice(0, 1), (0, 1)]:
            with self.assertRaises(BadNumber) as caught:
                Round(("a", "b"))[wrong]
            self.assertIs(caught.exception.value, wrong)

    def test_a_round_is_not_iterated_over(self):
        with self.assertRaises(TypeError):
            list(Round(("a",)))


class EqualTest(unittest.TestCase):
    def test_rounds_that_begin_elsewhere(self):
        one = Round(("a", "b", "c"))
        for lanes in ("abc", "bca", "cab"):
            self.assertIs(one == Round(tuple(lanes)), True)
            self.assertIs(one != Round(tuple(lanes)), False)
        for lanes in ("acb", "cba", "bac", "abb", "ab", "abca", "abcabc", "a", "abd"):
            self.assertIs(one == Round(tuple(lanes)), False)
            self.assertIs(one != Round(tuple(lanes)), True)

    def test_all_small_rounds(self):
        rounds = list(small_rounds(5))
        for one in rounds:
            for two in rounds:
                self.assertEqual(Round(one) == Round(two), two in turns(one), (one, two))

    def test_nothing_else_equals_a_round(self):
        ring = Round(("a",))
        for strange in NO_INTEGERS + [("a",), ["a"], "a", Net(), net_of("u", "a u u")]:
            self.assertIs(ring == strange, False)
            self.assertIs(strange == ring, False)
            self.assertIs(ring != strange, True)


class OperatorsTest(unittest.TestCase):
    def setUp(self):
        self.ring = Round(("b", "a", "c"))

    def test_multiples(self):
        self.assertEqual((self.ring * 1).lanes, ("b", "a", "c"))
        self.assertEqual((self.ring * 3).lanes, ("b", "a", "c") * 3)
        self.assertEqual((self.ring * 40).lanes, ("b", "a", "c") * 40)
        self.assertIsNot(self.ring * 1, self.ring)
        self.assertIsInstance(self.ring * 2, Round)

    def test_numbers_that_give_no_multiple(self):
        for wrong in NO_INTEGERS + [0, -1, -HUGE, self.ring]:
            with self.assertRaises(BadNumber) as caught:
                self.ring * wrong
            self.assertIs(caught.exception.value, wrong)

    def test_begun_elsewhere(self):
        expected = {0: "bac", 1: "acb", 2: "cba", 3: "bac", 4: "acb", -1: "cba", -2: "acb", -3: "bac", -4: "cba"}
        for number, lanes in expected.items():
            self.assertEqual((self.ring << number).lanes, tuple(lanes))
        for number in (HUGE, -HUGE, 3 * HUGE):
            self.assertEqual((self.ring << number).lanes, tuple(self.ring[number + k] for k in range(3)))
        self.assertIsInstance(self.ring << 0, Round)

    def test_numbers_that_are_none(self):
        for wrong in NO_INTEGERS + [self.ring]:
            with self.assertRaises(BadNumber) as caught:
                self.ring << wrong
            self.assertIs(caught.exception.value, wrong)

    def test_the_opposite_order(self):
        self.assertEqual((-self.ring).lanes, ("c", "a", "b"))
        self.assertEqual((-(-self.ring)).lanes, self.ring.lanes)
        self.assertEqual((-Round(("a",))).lanes, ("a",))

    def test_a_round_itself_is_never_changed(self):
        self.ring * 2, self.ring << 1, -self.ring, self.ring.root(), self.ring.least(), self.ring.taken()
        same = self.ring
        same *= 2
        same <<= 1
        self.assertEqual(self.ring.lanes, ("b", "a", "c"))
        self.assertEqual(same.lanes, ("a", "c", "b", "a", "c", "b"))


class RootTest(unittest.TestCase):
    def test_rounds_that_repeat_themselves(self):
        for lanes, shorter, many in (("ababab", "ab", 3), ("aaaa", "a", 4), ("abab", "ab", 2), ("abaaba", "aba", 2),
                                     ("aba", "aba", 1), ("a", "a", 1), ("abcab", "abcab", 1), ("aabaab", "aab", 2)):
            root, times = Round(tuple(lanes)).root()
            self.assertEqual((root.lanes, times), (tuple(shorter), many))
            self.assertIsInstance(root, Round)

    def test_root_is_a_tuple_of_a_round_and_an_integer(self):
        found = Round(("a",) * 200).root()
        self.assertIsInstance(found, tuple)
        self.assertEqual((found[0].lanes, found[1], len(found)), (("a",), 200, 2))

    def test_all_small_rounds(self):
        for lanes in small_rounds(8):
            root, times = Round(lanes).root()
            most = max(n for n in range(1, len(lanes) + 1) if lanes[:len(lanes) // n] * n == lanes)
            self.assertEqual((root.lanes * times, times), (lanes, most))

    def test_least(self):
        self.assertEqual(Round(("b", "a", "c")).least(), ("a", "c", "b"))
        self.assertEqual(Round(("b", "a", "b", "a")).least(), ("a", "b", "a", "b"))
        self.assertEqual(Round(("b10", "b2", "b")).least(), ("b", "b10", "b2"))
        for lanes in small_rounds(8):
            self.assertEqual(Round(lanes).least(), min(turns(lanes)))

    def test_taken(self):
        self.assertEqual(Round(("c", "a", "c", "b", "a")).taken(), ("a", "b", "c"))
        self.assertEqual(Round(("b10", "b2", "b", "b2")).taken(), ("b", "b10", "b2"))
        self.assertEqual(Round(["a"]).taken(), ("a",))


class ShownTest(unittest.TestCase):
    def test_what_a_round_shows(self):
        ring = Round(("a", "b", "c"))
        for shown in ("a", "c", "ab", "ca", "abc", "bca", "abca", "cabcabcab", "abc" * 30):
            self.assertIs(tuple(shown) in ring, True, shown)
            self.assertIs(list(shown) in ring, True, shown)
        for other in ("d", "ac", "ba", "aa", "abd", "abcb", "abcabcb"):
            self.assertIs(tuple(other) in ring, False, other)

    def test_other_things_are_not_shown(self):
        ring = Round(("a", "b"))
        for strange in NO_INTEGERS + [(), [], "a", "ab", {"a": 1}, {"a"}, (1,), ("a", 1), ("a", None), (("a",),),
                                      [["a"]], ring, ("A",), ("",), ("a", "b" * 20)]:
            self.assertIs(strange in ring, False)

    def test_what_only_claims_to_be_a_lane_is_not_shown(self):
        class Any:
            def __eq__(self, other):
                return True
        self.assertIs((Any(),) in Round(("a",)), False)

    def test_places(self):
        ring = Round(("a", "b", "a"))
        for lanes, places in (("a", [0, 2]), ("b", [1]), ("aa", [2]), ("ab", [0]), ("aab", [2]), ("abaa", [0]),
                              ("baabaab", [1]), ("c", []), ("bb", []), ("abaaba" * 3, [0])):
            self.assertEqual(ring.places(tuple(lanes)), places)
            self.assertEqual(ring.places(list(lanes)), places)
        self.assertEqual(Round(("a",) * 4).places(("a",) * 9), [0, 1, 2, 3])
        self.assertEqual(Round(("a", "b") * 2).places(("b", "a")), [1, 3])

    def test_no_lanes_have_no_places(self):
        for lanes in ((), []):
            with self.assertRaises(EmptyWalk):
                Round(("a",)).places(lanes)

    def test_all_small_rounds(self):
        for lanes in small_rounds(4):
            ring = Round(lanes)
            for sought in small_rounds(6):
                places = [k for k in range(len(lanes)) if all(ring[k + t] == sought[t] for t in range(len(sought)))]
                self.assertEqual(ring.places(sought), places)
                self.assertEqual(sought in ring, places != [])

    def test_what_is_passed_and_returned_is_free(self):
        ring, lanes = Round(("a", "b")), ["a"]
        self.assertIs(lanes in ring, True)
        ring.places(lanes).append(7)
        self.assertEqual((lanes, ring.places(lanes)), (["a"], [0]))


class FitsTest(unittest.TestCase):
    def setUp(self):
        self.net = net_of("u v w", "a u u, b u v, c v u, d v w")

    def test_rounds_of_a_net(self):
        for lanes in ("a", "aa", "bc", "cb", "abc", "bcaabc"):
            self.assertIs(fits(self.net, Round(tuple(lanes))), True, lanes)

    def test_rounds_that_do_not_fit(self):
        for lanes in ("b", "c", "ab", "ac", "bcb", "acb", "bd", "d", "x", "ax", "xa", "u"):
            self.assertIs(fits(self.net, Round(tuple(lanes))), False, lanes)
        self.assertIs(fits(Net(), Round(("a",))), False)

    def test_nothing_is_changed(self):
        ring, before = Round(("b", "c")), rows_of(self.net)
        fits(self.net, ring)
        self.assertEqual((rows_of(self.net), ring.lanes), (before, ("b", "c")))

    def test_small_nets(self):
        for net in list(small_nets())[::7]:
            for lanes in itertools.chain(*[itertools.product(net.lanes, repeat=n) for n in (1, 2, 3)]):
                expected = all(net.end_of(lanes[k]) == net.start_of(lanes[(k + 1) % len(lanes)])
                               for k in range(len(lanes)))
                self.assertIs(fits(net, Round(lanes)), expected)


if __name__ == "__main__":
    unittest.main()
