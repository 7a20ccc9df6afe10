"""Points 2 and 29: detours, where all lanes of a net are wanted."""

import random
import unittest

from alsoshown.asked import Asked
from alsoshown.errors import BadName, EmptyWalk, NotOnePart, NotWalk, OneRing
from alsoshown.longest import detour, longest
from alsoshown.nets import Net, walked
from alsoshown.rounds import Round
from making import net_of, random_net, ring_net, rounds_taking, rows_of


def is_detour(net, lanes, found):
    """Whether this is a detour of the walk, as point 29 says it."""
    j, i, way = found
    last = len(lanes) - 1
    if not (0 <= j < last and 1 <= i <= j + 1) or not isinstance(way, tuple):
        return False
    posts = walked(net, way)
    if posts[0] != net.end_of(lanes[j]) or posts[-1] != net.start_of(lanes[i]):
        return False
    if way[0] == lanes[j + 1] or way[-1] == lanes[i - 1]:
        return False
    return len(set(posts[:-1])) == len(posts) - 1 and posts[-1] not in posts[1:-1]


def simple_ways(net):
    """All walks that pass no post twice, except that they may begin and end at the same one."""
    found, last = [], [(lane,) for lane in net.lanes]
    while last:
        found += last
        longer = [way + (lane,) for way in last for lane in net.out_of(net.end_of(way[-1]))
                  if net.end_of(way[-1]) != net.start_of(way[0])]
        last = [way for way in longer if net.end_of(way[-1]) not in walked(net, way)[1:-1]]
    return found


def walks_of(net, most):
    """All walks of at most so many lanes."""
    walks = [(lane,) for lane in net.lanes]
    for _ in range(most):
        yield from walks
        walks = [lanes + (lane,) for lanes in walks for lane in net.out_of(net.end_of(lanes[-1]))]


class DetourTest(unittest.TestCase):
    def setUp(self):
        self.net = net_of("u v w", "a u v, c v u, b u w, d w u")

    def check(self, net, lanes):
        """Check the detour of one walk, and that there is one exactly if the walk is not sure."""
        found = detour(net, lanes)
        if found is not None:
            self.assertIsInstance(found, tuple)
            self.assertTrue(is_detour(net, lanes, found), (lanes, found))
        self.assertEqual(found is None, Asked(net, net.lanes)(lanes) == "sure", lanes)
        return found

    def test_by_hand(self):
        for lanes in (("a",), ("a", "c"), ("a", "c", "b", "d"), ("c", "b"), ["b", "d", "a", "c"]):
            self.assertIsNone(self.check(self.net, lanes))
        for lanes in (("a", "c", "a"), ("c", "a"), ["d", "b", "d"], ("a", "c", "b", "d", "a")):
            self.assertIsNotNone(self.check(self.net, lanes))
        self.assertEqual(detour(self.net, ("c", "a")), (0, 1, ("b", "d")))

    def test_detours_that_are_a_lane_to_the_same_post(self):
        net = net_of("u v", "a u v, b v u, c v v")
        self.assertEqual(detour(net, ("a", "b")), (0, 1, ("c",)))
        self.assertIsNone(self.check(net, ("b", "a")))
        self.assertIsNone(self.check(net, ("b", "a", "c")))
        self.assertIsNotNone(self.check(net, ("c", "c")))

    def test_detours_of_lanes_side_by_side(self):
        net = net_of("u v", "a u v, b u v, c v u")
        for lanes in (("a", "c"), ("c", "a"), ("a", "c", "b"), ("c", "b", "c"), ("c", "b", "c", "a", "c")):
            self.assertIsNone(self.check(net, lanes))
        for lanes in (("a", "c", "a"), ("c", "b", "c", "b"), ("a", "c", "b", "c", "a")):
            self.assertIsNotNone(self.check(net, lanes))

    def test_all_walks_of_random_nets(self):
        source = random.Random(29)
        counts = {True: 0, False: 0}
        for _ in range(60):
            posts = source.randint(1, 4)
            net = random_net(source, posts, posts + source.randint(1, 3))
            ways = simple_ways(net)
            for lanes in walks_of(net, 4):
                found = self.check(net, lanes)
                counts[found is None] += 1
                pairs = [(j, i) for j in range(len(lanes) - 1) for i in range(1, j + 2)]
                every = any(is_detour(net, lanes, (j, i, way)) for j, i in pairs for way in ways)
                self.assertEqual(found is not None, every, lanes)
        self.assertGreater(min(counts.values()), 500)

    def test_rounds_of_the_test(self):
        source = random.Random(30)
        for _ in range(40):
            net = random_net(source, 3, 5)
            rounds = [Round(lanes) for lanes in rounds_taking(net, net.lanes, 8)]
            for lanes in walks_of(net, 4):
                if detour(net, lanes) is None:
                    for ring in rounds:
                        self.assertIn(lanes, ring)

    def test_greatest_sure_stretches_of_nets_near_the_limits(self):
        source = random.Random(31)
        for posts, lanes in ((10, 16), (10, 12), (10, 11), (5, 16), (1, 16), (14, 22)):
            net = random_net(source, posts, lanes)
            asked = Asked(net, net.lanes)
            for stretch in longest(asked):
                self.assertIsNone(self.check(net, stretch))
                for lane in net.out_of(net.end_of(stretch[-1])):
                    self.assertIsNotNone(self.check(net, stretch + (lane,)))
            self.assertIsNotNone(self.check(net, (asked.round() * 8).lanes))

    def test_nothing_is_changed(self):
        lanes, before = ["c", "a"], rows_of(self.net)
        detour(self.net, lanes)
        self.assertEqual((lanes, rows_of(self.net)), (["c", "a"], before))


class ErrorsTest(unittest.TestCase):
    def setUp(self):
        self.parted = net_of("u v", "a u v, b u u")
        self.ring = ring_net(2)
        self.net = net_of("u v", "a u v, b v u, c u v")

    def test_tuples_that_are_no_walks_of_names_come_first(self):
        for net in (Net(), self.parted, self.ring, self.net):
            for lanes in ((), []):
                with self.assertRaises(EmptyWalk):
                    detour(net, lanes)
            for lanes, wrong in ((("A",), "A"), (["x", 3, "B"], 3), (("a", ""), "")):
                with self.assertRaises(BadName) as caught:
                    detour(net, lanes)
                self.assertEqual(caught.exception.name, wrong)

    def test_nets_that_are_not_one_part(self):
        two = net_of("u v", "a u u, b v v")
        more = net_of("u v w", "a u v, b v u, c u v")
        for net in (Net(), net_of("u"), net_of("u v"), self.parted, two, more, net_of("u v", "a u u"),
                    net_of("u v", "a u u, b v v, c u v")):
            for lanes in (("a",), ("x",), ["b", "b"]):
                with self.assertRaises(NotOnePart):
                    detour(net, lanes)

    def test_single_rings(self):
        for many in (1, 2, 10):
            net = ring_net(many)
            for lanes in (("l0",), ["x"], ("l0", "l0")):
                with self.assertRaises(OneRing) as caught:
                    detour(net, lanes)
                self.assertEqual(caught.exception.ring, Round(net.lanes))

    def test_sequences_that_are_no_walks(self):
        for lanes in (("x",), ("a", "x"), ("a", "c"), ["a", "a"], ("a", "b", "b"), ("u",), ("a", "b", "a", "c")):
            with self.assertRaises(NotWalk):
                detour(self.net, lanes)


if __name__ == "__main__":
    unittest.main()
