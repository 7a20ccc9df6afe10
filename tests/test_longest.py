"""Points 2, 27 and 28: the greatest sure stretches."""

import inspect
import itertools
import random
import unittest

from alsoshown.asked import Asked
from alsoshown.errors import BadName, EmptyWalk, NoRound, NotSure, OneRing
from alsoshown.longest import grown, longest
from alsoshown.rounds import Round
from checks import AskedCase
from making import net_of, random_net, ring_net, rounds_taking, small_nets


def is_within(stretch, greater):
    return any(tuple(greater[k:k + len(stretch)]) == tuple(stretch) for k in range(len(greater)))


def is_one_ring(asked):
    posts, lanes = asked.part()
    return len(posts) == len(lanes)


def sure_stretches(asked):
    """All sure stretches, found by making shorter ones longer by each lane."""
    found, last = [], [(lane,) for lane in asked.net.lanes if asked((lane,)) == "sure"]
    while last:
        found += last
        last = [stretch + (lane,) for stretch in last for lane in asked.net.lanes
                if asked(stretch + (lane,)) == "sure"]
    return found


def greatest(stretches):
    """Those that are not a part of a longer one, in ascending order."""
    return sorted(one for one in stretches
                  if not any(one != two and is_within(one, two) for two in stretches))


def some_asked(source, posts, lanes):
    """Wanted lanes of a random net that has rounds, but is not a single ring."""
    while True:
        net = random_net(source, posts, lanes, source.random() < 0.7)
        asked = Asked(net, source.sample(net.lanes, source.randint(1, lanes)))
        if asked and not is_one_ring(asked):
            return asked


class LongestTest(AskedCase):
    def test_by_hand(self):
        net = net_of("u v", "a u u, b u v, c v u")
        self.assertEqual(list(longest(Asked(net, ("b",)))), [("b", "c")])
        self.assertEqual(list(longest(Asked(net, ("c",)))), [("b", "c")])
        self.assertEqual(list(longest(Asked(net, ("a",)))), [("a",)])
        self.assertEqual(list(longest(Asked(net, ("a", "b")))), [("a", "b", "c"), ("b", "c", "a")])

    def test_ascending_order_of_names(self):
        net = net_of("u v w", "c u v, b2 v u, b10 v u, a u w, d w u")
        self.assertEqual(list(longest(Asked(net, net.lanes))), [("a", "d", "c"), ("c", "b10"), ("c", "b2")])
        net = net_of("u v w", "a u v, c v u, b u w, d w u")
        self.assertEqual(list(longest(Asked(net, net.lanes))), [("a", "c", "b", "d"), ("b", "d", "a", "c")])

    def test_a_lane_twice_in_a_stretch(self):
        net = net_of("u v w", "x u v, y v w, z w u, w v u")
        found = list(longest(Asked(net, net.lanes)))
        self.assertEqual(found, greatest(sure_stretches(Asked(net, net.lanes))))
        self.assertIn(("x", "w", "x", "y", "z", "x"), found)

    def test_it_is_a_generator(self):
        self.assertTrue(inspect.isgeneratorfunction(longest))
        asked = Asked(net_of("u", "a u u, b u u"), ("a",))
        found = longest(asked)
        self.assertEqual((next(found), list(found)), (("a",), []))

    def test_errors_only_when_it_is_iterated(self):
        for asked, error in ((Asked(net_of("u v", "a u v"), ("a",)), NoRound), (Asked(ring_net(3), ("l0",)), OneRing)):
            found = longest(asked)
            with self.assertRaises(error):
                next(found)

    def test_all_small_nets(self):
        for net in list(small_nets())[::6]:
            for wanted in itertools.combinations(net.lanes, 2):
                asked = Asked(net, wanted)
                if not asked or is_one_ring(asked):
                    continue
                found = list(longest(asked))
                self.assertEqual(found, greatest(sure_stretches(asked)))

    def test_random_nets(self):
        source = random.Random(28)
        for _ in range(150):
            asked = some_asked(source, source.randint(1, 5), source.randint(2, 9))
            found = list(longest(asked))
            self.assertEqual(found, greatest(sure_stretches(asked)))
            for stretch in found:
                self.assertIsInstance(stretch, tuple)
                self.assertIn(stretch, asked.round())

    def test_rounds_of_the_test_show_all_and_bound_their_length(self):
        source = random.Random(29)
        for _ in range(60):
            asked = some_asked(source, 3, 5)
            rounds = [Round(lanes) for lanes in rounds_taking(asked.net, asked.wanted, 8)]
            for stretch in longest(asked):
                for ring in rounds:
                    self.assertIn(stretch, ring)
                for one, two in zip(rounds, rounds[1:]):
                    if one.root()[0] != two.root()[0]:
                        self.assertLess(len(stretch), len(one) + len(two))

    def test_nets_near_the_limits(self):
        source = random.Random(30)
        for posts, lanes in ((10, 16), (10, 12), (10, 11), (4, 16), (1, 16), (14, 22)):
            net = random_net(source, posts, lanes)
            for wanted in (net.lanes, net.lanes[:1], net.lanes[3:7]):
                asked = Asked(net, wanted)
                found = list(longest(asked))
                self.assertEqual(found, sorted(set(found)))
                for stretch in found:
                    self.assertEqual(asked(stretch), "sure")
                    for lane in net.lanes:
                        self.assertNotEqual(asked(stretch + (lane,)), "sure")
                        self.assertNotEqual(asked((lane,) + stretch), "sure")
                for lane in wanted:
                    self.assertTrue(any(lane in stretch for stretch in found))

    def test_the_net_turned_about(self):
        source = random.Random(31)
        for _ in range(40):
            asked = some_asked(source, 4, 7)
            back = Asked(-asked.net, asked.wanted)
            self.assertEqual(sorted(stretch[::-1] for stretch in longest(back)), list(longest(asked)))


class OneRingTest(AskedCase):
    def one_ring(self, asked, operation):
        with self.assertRaises(OneRing) as caught:
            operation()
        ring = caught.exception.ring
        self.is_round_of(ring, asked)
        self.assertEqual(len(ring), len(asked.part()[1]))
        self.assertEqual(ring.root()[1], 1)

    def test_single_rings(self):
        for many in (1, 2, 3, 10, 14):
            net = ring_net(many)
            for wanted in (("l0",), net.lanes, (f"l{many - 1}",)):
                asked = Asked(net, wanted)
                self.one_ring(asked, lambda: list(longest(asked)))
                self.one_ring(asked, lambda: grown(asked, ("l0",)))
                self.one_ring(asked, lambda: grown(asked, asked.round().lanes * 3))

    def test_a_ring_with_more_lanes_around_it(self):
        net = net_of("x u v w", "d x u, c v u, e v w, b u v, a w w, f w w")
        asked = Asked(net, ("b",))
        self.one_ring(asked, lambda: list(longest(asked)))
        self.assertEqual(asked((asked.round() * 4).lanes), "sure")
        self.assertEqual(list(longest(Asked(net, ("a",)))), [("a",)])

    def test_everything_that_the_ring_shows_is_sure(self):
        asked = Asked(ring_net(3), ("l1",))
        for start in range(3):
            for many in range(1, 13):
                lanes = tuple(f"l{(start + k) % 3}" for k in range(many))
                self.assertEqual(asked(lanes), "sure")
                self.assertEqual(asked(lanes + lanes[-1:]), "never")


class GrownTest(AskedCase):
    def setUp(self):
        self.asked = Asked(net_of("u v w", "a u v, c v u, b u w, d w u"), ("a", "b"))

    def not_sure(self, asked, stretch):
        with self.assertRaises(NotSure) as caught:
            grown(asked, stretch)
        self.is_round_of(caught.exception.ring, asked)
        self.assertNotIn(tuple(stretch), caught.exception.ring)

    def test_by_hand(self):
        one, two = ("a", "c", "b", "d"), ("b", "d", "a", "c")
        for stretch, expected in ((("a", "c"), [one, two]), (("a",), [one, two]), (["c", "b"], [one]),
                                  (("d", "a"), [two]), (one, [one]), (list(two), [two]), (("d", "a", "c"), [two])):
            self.assertEqual(grown(self.asked, stretch), expected)

    def test_not_sure(self):
        for stretch in (("a", "c", "a"), ("c", "a"), ["x"], ("a", "d"), ("a", "c", "b", "d", "a"), ("a", "a"), ("u",)):
            self.not_sure(self.asked, stretch)

    def test_not_sure_comes_before_one_ring(self):
        asked = Asked(ring_net(2), ("l0",))
        for stretch in (("l0", "l0"), ("x",), ("l0", "l1", "l1")):
            self.not_sure(asked, stretch)
        with self.assertRaises(OneRing):
            grown(asked, ("l0", "l1", "l0"))

    def test_the_order_of_the_other_errors(self):
        none = Asked(net_of("u v", "a u v, b v v"), ("a",))
        for asked in (self.asked, none, Asked(ring_net(2), ("l0",))):
            with self.assertRaises(EmptyWalk):
                grown(asked, [])
            with self.assertRaises(BadName) as caught:
                grown(asked, ["a", "B", ""])
            self.assertEqual(caught.exception.name, "B")
        for stretch in (("b",), ["x"]):
            self.no_round(none, lambda: grown(none, stretch))

    def test_random_nets(self):
        source = random.Random(32)
        for _ in range(80):
            asked = some_asked(source, source.randint(2, 4), source.randint(3, 7))
            every = list(longest(asked))
            for stretch in sure_stretches(asked):
                self.assertEqual(grown(asked, stretch), [one for one in every if is_within(stretch, one)])
                self.assertNotEqual(grown(asked, stretch), [])
            for lane in asked.net.lanes:
                if asked((lane, lane)) != "sure":
                    self.not_sure(asked, (lane, lane))

    def test_names_that_begin_or_end_alike(self):
        net = net_of("u v w", "a1 u v, b v u, ba u w, a w u")
        asked = Asked(net, net.lanes)
        self.assertEqual(grown(asked, ("a1", "b")), [("a1", "b", "ba", "a"), ("ba", "a", "a1", "b")])
        for stretch in (("a", "b"), ("b", "b"), ("a1", "ba"), ("a", "a1", "b", "b")):
            self.not_sure(asked, stretch)

    def test_nothing_is_changed(self):
        stretch = ["a", "c"]
        grown(self.asked, stretch).clear()
        self.assertEqual((stretch, len(grown(self.asked, stretch))), (["a", "c"], 2))


if __name__ == "__main__":
    unittest.main()
