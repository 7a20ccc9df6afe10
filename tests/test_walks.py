"""Points 2, 7 and 8: walks, ways and parts."""

import unittest

from alsoshown.errors import BadWalk, EmptyWalk, NoLane, NoPost
from alsoshown.nets import Net, parts_of, walked, way_from
from making import net_of, rows_of, small_nets


def distances(net):
    """The least number of lanes from each post to each one, found by trying longer and longer ways."""
    steps = {(net.start_of(lane), net.end_of(lane)) for lane in net.lanes}
    found = {(post, post): 0 for post in net.posts}
    for many in range(len(net.posts)):
        for a, b in [pair for pair in found if found[pair] == many]:
            for start, end in steps:
                if start == b:
                    found.setdefault((a, end), many + 1)
    return found


class WalkedTest(unittest.TestCase):
    def setUp(self):
        self.net = net_of("u v w", "a u v, b v u, c u u, d v w, e u v")

    def test_the_posts_along_a_walk(self):
        self.assertEqual(walked(self.net, ("a",)), ("u", "v"))
        self.assertEqual(walked(self.net, ("c",)), ("u", "u"))
        self.assertEqual(walked(self.net, ("c", "c", "a", "b", "e", "d")), ("u", "u", "u", "v", "u", "v", "w"))

    def test_a_list_is_accepted_and_not_changed(self):
        lanes, before = ["a", "b"], rows_of(self.net)
        self.assertEqual(walked(self.net, lanes), ("u", "v", "u"))
        self.assertEqual((lanes, rows_of(self.net)), (["a", "b"], before))

    def test_no_lanes(self):
        for lanes in ((), []):
            with self.assertRaises(EmptyWalk):
                walked(self.net, lanes)
        with self.assertRaises(EmptyWalk):
            walked(Net(), ())

    def test_strange_lanes_come_before_wrong_places(self):
        for lanes, name in ((("x",), "x"), (("a", "a", "y", "x"), "y"), (("u",), "u"), (("a", "b", "A"), "A")):
            with self.assertRaises(NoLane) as caught:
                walked(self.net, lanes)
            self.assertEqual(caught.exception.name, name)

    def test_the_first_wrong_place(self):
        for lanes, place in ((("a", "a"), 1), (("a", "b", "b", "b"), 2), (("c", "a", "d", "d", "a"), 3), ("dc", 1)):
            with self.assertRaises(BadWalk) as caught:
                walked(self.net, tuple(lanes))
            self.assertEqual(caught.exception.place, place)

    def test_long_walks(self):
        self.assertEqual(walked(self.net, ("a", "b") * 150), ("u", "v") * 150 + ("u",))


class WayTest(unittest.TestCase):
    def test_ways_are_as_short_as_possible(self):
        net = net_of("u v w x", "a u v, b v w, c w x, d u w, e x x")
        self.assertEqual(way_from(net, "u", "x"), ["d", "c"])
        self.assertEqual(way_from(net, "v", "x"), ["b", "c"])
        self.assertEqual(way_from(net, "u", "v"), ["a"])

    def test_equal_posts_need_no_lane(self):
        net = net_of("u v", "a u u")
        self.assertEqual(way_from(net, "u", "u"), [])
        self.assertEqual(way_from(net, "v", "v"), [])

    def test_no_way(self):
        net = net_of("u v w", "a u v, b u u")
        self.assertIsNone(way_from(net, "v", "u"))
        self.assertIsNone(way_from(net, "w", "u"))
        self.assertIsNone(way_from(net, "u", "w"))

    def test_strange_posts(self):
        net = net_of("u", "a u u")
        for a, b, name in (("x", "y", "x"), ("u", "y", "y"), ("x", "u", "x"), ("a", "a", "a"), ("x", "x", "x")):
            with self.assertRaises(NoPost) as caught:
                way_from(net, a, b)
            self.assertEqual(caught.exception.name, name)

    def test_all_small_nets(self):
        for net in small_nets():
            shortest, before = distances(net), rows_of(net)
            for a in net.posts:
                for b in net.posts:
                    way = way_from(net, a, b)
                    if (a, b) not in shortest:
                        self.assertIsNone(way)
                        continue
                    self.assertIsInstance(way, list)
                    self.assertEqual(len(way), shortest[a, b])
                    if way:
                        posts = walked(net, way)
                        self.assertEqual((posts[0], posts[-1]), (a, b))
            self.assertEqual(rows_of(net), before)

    def test_what_is_returned_is_new(self):
        net = net_of("u v", "a u v")
        for a, b, lanes in (("u", "v", ["a"]), ("u", "u", [])):
            way_from(net, a, b).append("x")
            self.assertEqual(way_from(net, a, b), lanes)


class PartsTest(unittest.TestCase):
    def test_a_net_without_lanes_has_no_parts(self):
        self.assertEqual(parts_of(Net()), [])
        self.assertEqual(parts_of(net_of("u v")), [])
        self.assertEqual(parts_of(net_of("u v", "a u v")), [])

    def test_a_single_post_with_a_lane_to_itself(self):
        self.assertEqual(parts_of(net_of("u v", "a v u, b v v, c v v")), [(("v",), ("b", "c"))])

    def test_parts_and_posts_in_none(self):
        net = net_of("x w v u t s", "a s t, b t s, c t u, d u v, e v w, f w v, g w x, h w w, i s t")
        self.assertEqual(parts_of(net), [(("w", "v"), ("e", "f", "h")), (("t", "s"), ("a", "b", "i"))])

    def test_parts_are_ordered_by_their_first_posts(self):
        net = net_of("u v w x y", "a v y, b y v, c u x, d x w, e w u, f x v")
        self.assertEqual(parts_of(net), [(("u", "w", "x"), ("c", "d", "e")), (("v", "y"), ("a", "b"))])

    def test_lanes_added_again_change_the_order_of_inner_lanes(self):
        net = net_of("u v", "a u v, b v u, c u u")
        net.cut("a")
        self.assertEqual(parts_of(net), [(("u",), ("c",))])
        net.lane("a", "u", "v")
        self.assertEqual(parts_of(net), [(("u", "v"), ("b", "c", "a"))])

    def test_all_small_nets(self):
        for net in small_nets():
            near, before = distances(net), rows_of(net)
            expected = []
            for post in net.posts:
                posts = tuple(b for b in net.posts if (post, b) in near and (b, post) in near)
                lanes = tuple(l for l in net.lanes if {net.start_of(l), net.end_of(l)} <= set(posts))
                if lanes and (posts, lanes) not in expected:
                    expected.append((posts, lanes))
            self.assertEqual(parts_of(net), expected)
            self.assertEqual(rows_of(net), before)

    def test_what_is_returned_is_new(self):
        net = net_of("u", "a u u")
        parts_of(net).append("x")
        self.assertEqual(parts_of(net), [(("u",), ("a",))])

    def test_more_posts_than_the_limit(self):
        net = Net()
        for k in range(28):
            net.post(f"p{k}")
        for k in range(28):
            net.lane(f"l{k}", f"p{k}", f"p{(k + 1) % 28}")
        self.assertEqual(parts_of(net), [(net.posts, net.lanes)])
        self.assertEqual(way_from(net, "p0", "p27"), [f"l{k}" for k in range(27)])


if __name__ == "__main__":
    unittest.main()
