"""Points 2 and 18 to 22: nets with wanted lanes, their rounds, and what these show."""

import random
import unittest

from alsoshown.asked import Asked, avoiding, never, paper, showing
from alsoshown.errors import BadName, EmptyWalk, NoLane, NoRound, NothingWanted
from alsoshown.longest import grown, longest
from alsoshown.nets import Net, parts_of
from alsoshown.patterns import any_of, none_of, optional, repeated, walk_of
from alsoshown.rounds import Round
from checks import AskedCase, expected_no_round
from making import net_of, random_net, rounds_taking, rows_of, small_nets
from trees import Reader, built, random_tree, walk

# All that is asked of the rounds of asked, with a pattern.
QUESTIONS = [lambda asked, pattern: asked(pattern), showing, avoiding, paper, never]


class MakingTest(AskedCase):
    def test_nothing_wanted(self):
        for net in (Net(), net_of("u", "a u u")):
            for wanted in ((), []):
                with self.assertRaises(NothingWanted):
                    Asked(net, wanted)

    def test_the_first_one_that_is_no_lane(self):
        net = net_of("u v", "a u v, b v u")
        for wanted, name in ((("a", "x", "y"), "x"), (("u",), "u"), (["b", "A"], "A"), (("y", "a"), "y"), (("",), "")):
            with self.assertRaises(NoLane) as caught:
                Asked(net, wanted)
            self.assertEqual(caught.exception.name, name)
        with self.assertRaises(NoLane):
            Asked(Net(), ("a",))

    def test_wanted_lanes_stand_in_the_order_of_the_net(self):
        net = net_of("u v", "c u v, a v u, b u u")
        self.assertEqual(Asked(net, ("b", "a", "b", "c")).wanted, ("c", "a", "b"))
        self.assertEqual(Asked(net, ["b", "b"]).wanted, ("b",))
        self.assertIsInstance(Asked(net, ["b"]).wanted, tuple)

    def test_what_was_passed_may_be_changed_afterwards(self):
        net, wanted = net_of("u v", "a u v, b v u, c u u"), ["a"]
        asked, before = Asked(net, wanted), rows_of(net)
        self.assertEqual((wanted, rows_of(net)), (["a"], before))
        net.cut("b")
        wanted.append("c")
        self.assertEqual((asked.wanted, rows_of(asked.net), bool(asked)), (("a",), before, True))
        self.assertEqual(asked.part(), (("u", "v"), ("a", "b", "c")))
        self.is_round_of(asked.round(), asked)

    def test_the_net_that_is_returned_is_a_copy(self):
        asked = Asked(net_of("u v", "a u v, b v u"), ("a",))
        copy = asked.net
        copy.cut("b")
        copy.post("w")
        self.assertEqual(rows_of(asked.net), (("u", "v"), [("a", "u", "v"), ("b", "v", "u")]))
        self.assertIsNot(asked.net, asked.net)
        self.assertIs(bool(asked), True)


class RoundsTest(AskedCase):
    def test_part_and_round(self):
        net = net_of("x v u w y", "d x x, c u v, a v u, b w w, e u u, f v w, g x v")
        asked = Asked(net, ("e", "a"))
        self.assertIs(bool(asked), True)
        self.assertEqual(asked.part(), (("v", "u"), ("c", "a", "e")))
        self.is_round_of(asked.round(), asked)
        self.assertEqual(Asked(net, ("d",)).part(), (("x",), ("d",)))
        self.assertEqual(Asked(net, ("d",)).round().taken(), ("d",))

    def test_no_rounds(self):
        net = net_of("u v w", "c v w, a u v, b v u, d w w")
        for wanted, pair, side in ((("c",), ("c", "c"), {"w"}), (("a", "d"), ("d", "a"), {"w"}),
                                   (("d", "c", "a"), ("c", "c"), {"w"}), (("b", "d"), ("d", "b"), {"w"})):
            asked = Asked(net, wanted)
            self.assertIs(bool(asked), False)
            for operation in (asked.part, asked.round):
                with self.assertRaises(NoRound) as caught:
                    operation()
                error = caught.exception
                self.assertEqual((error.first, error.second, set(error.side)), (*pair, side))
                self.no_round(asked, operation)

    def test_two_parts_without_a_way_either_way(self):
        asked = Asked(net_of("u v", "b v v, a u u"), ("a", "b"))
        with self.assertRaises(NoRound) as caught:
            asked.part()
        self.assertEqual((caught.exception.first, caught.exception.second), ("b", "a"))

    def test_all_small_nets(self):
        source = random.Random(20)
        for number, net in enumerate(small_nets()):
            if not net.lanes:
                continue
            wanted = tuple(source.sample(net.lanes, source.randint(1, min(3, len(net)))))
            asked = Asked(net, wanted)
            within = [part for part in parts_of(net) if set(wanted) <= set(part[1])]
            self.assertIs(bool(asked), len(within) == 1)
            if within:
                self.assertEqual(asked.part(), within[0])
                self.is_round_of(asked.round(), asked)
                self.assertLessEqual(set(asked.round().lanes), set(within[0][1]))
                self.assertIsNone(expected_no_round(net, wanted))
            else:
                self.no_round(asked, asked.part)
                self.no_round(asked, asked.round)
                if number % 4 == 0:
                    self.assertEqual(rounds_taking(net, wanted, 5), [])

    def test_nets_near_the_limits(self):
        source = random.Random(21)
        for posts, lanes in ((10, 16), (10, 16), (1, 16), (10, 10), (14, 22)):
            net = random_net(source, posts, lanes)
            asked = Asked(net, net.lanes)
            self.assertEqual(asked.part(), (net.posts, net.lanes))
            self.is_round_of(asked.round(), asked)


class ErrorsTest(AskedCase):
    def setUp(self):
        self.asked = Asked(net_of("u v", "a u v, b v u"), ("a",))
        self.none = Asked(net_of("u v", "a u v, b u u"), ("a", "b"))

    def test_tuples_that_are_no_patterns_come_first(self):
        for asked in (self.asked, self.none):
            for question in QUESTIONS + [grown]:
                for lanes in ((), []):
                    with self.assertRaises(EmptyWalk):
                        question(asked, lanes)
                for lanes, wrong in ((("A",), "A"), (["a", 5, "B"], 5), (("a", "abcdefghi"), "abcdefghi")):
                    with self.assertRaises(BadName) as caught:
                        question(asked, lanes)
                    self.assertEqual(caught.exception.name, wrong)

    def test_then_no_round(self):
        for pattern in (any_of("a"), ("a",), ["x", "y"], optional(any_of("a")), repeated(none_of())):
            for question in QUESTIONS:
                self.no_round(self.none, lambda: question(self.none, pattern))
        self.no_round(self.none, lambda: list(longest(self.none)))
        for stretch in (("a",), ["x"]):
            self.no_round(self.none, lambda: grown(self.none, stretch))


class VerdictTest(AskedCase):
    def setUp(self):
        # A round goes by b and c, or by d, and may take a as often as it likes.
        self.net = net_of("u v", "a u u, b u v, c v u, d u u")

    def test_by_hand(self):
        asked = Asked(self.net, ("b",))
        for pattern, verdict in (
                (any_of("b"), "sure"), (("b", "c"), "sure"), (["c", "b"], "open"), (("b", "b"), "never"),
                (("a",), "open"), (("a", "b"), "open"), (("x",), "never"), (none_of(), "sure"), (none_of("b"), "sure"),
                (none_of("b", "c"), "open"), (any_of("a", "b", "d") + any_of("b"), "open"), (("a", "c"), "never"),
                (any_of("c") + any_of("a", "b", "d"), "sure"), (none_of() * 12, "sure"),
                (none_of("a", "b", "c", "d"), "never"), (any_of("c") + repeated(none_of("b")) + any_of("b"), "sure"),
                (optional(any_of("x")), "sure"), (repeated(any_of("a")), "sure"),
                (any_of("a") + repeated(any_of("a")), "open"), (any_of("x") | walk_of("b", "c"), "sure")):
            self.assertEqual(asked(pattern), verdict, getattr(pattern, "text", pattern))

    def test_showing_and_avoiding_by_hand(self):
        asked = Asked(self.net, ("b",))
        self.assertIsNone(avoiding(asked, ("b", "c")))
        self.assertIsNone(showing(asked, ("b", "b")))
        ring = showing(asked, ("d", "a", "a", "d"))
        self.is_round_of(ring, asked)
        self.assertIn(("d", "a", "a", "d"), ring)
        ring = avoiding(asked, any_of("a", "d"))
        self.is_round_of(ring, asked)
        self.assertEqual(ring.taken(), ("b", "c"))
        for pattern in (optional(any_of("a")), repeated(none_of())):
            self.assertIsNone(avoiding(asked, pattern))
            self.is_round_of(showing(asked, pattern), asked)

    def test_a_word_that_goes_round_several_times(self):
        asked = Asked(net_of("u v", "b u v, c v u"), ("b",))
        for lanes in (("b", "c") * 5, ("c", "b") * 6 + ("c",), ["c"]):
            self.assertEqual(asked(tuple(lanes)), "sure")
        self.assertEqual(asked(("b", "c", "c")), "never")
        self.assertEqual(asked((asked.round() * 8).lanes), "sure")

    def test_rounds_of_small_nets(self):
        source = random.Random(22)
        counts = {"sure": 0, "open": 0, "never": 0}
        for net in list(small_nets())[::3]:
            if not net.lanes:
                continue
            asked = Asked(net, source.sample(net.lanes, source.randint(1, min(2, len(net)))))
            if not asked:
                continue
            rounds = rounds_taking(net, asked.wanted, 6)
            for _ in range(3):
                tree = random_tree(source, [*net.lanes, "x"], source.randint(1, 4))
                shown = {Reader(tree).shown_by(lanes) for lanes in rounds}
                verdict = asked(built(tree))
                counts[verdict] += 1
                self.assertLessEqual(shown, {"sure": {True}, "never": {False}, "open": {True, False}}[verdict])
        self.assertGreater(min(counts.values()), 20)

    def test_walks_in_rounds_of_small_nets(self):
        source = random.Random(23)
        for net in list(small_nets())[1::5]:
            asked = Asked(net, source.sample(net.lanes, 1))
            if not asked:
                continue
            rounds = rounds_taking(net, asked.wanted, 6)
            for _ in range(4):
                lanes = tuple(source.choice(net.lanes) for _ in range(source.randint(1, 3)))
                shown = {lanes in Round(ring) for ring in rounds}
                self.assertEqual(shown, {Reader(walk(lanes)).shown_by(ring) for ring in rounds})
                self.assertLessEqual(shown, {"sure": {True}, "never": {False}, "open": {True, False}}[asked(lanes)])
                self.assertEqual(asked(lanes), asked(walk_of(*lanes)))


if __name__ == "__main__":
    unittest.main()
