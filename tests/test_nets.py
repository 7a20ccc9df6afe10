"""Points 2 and 4 to 6: nets."""

import unittest

from alsoshown.errors import BadName, Clash, NameTaken, NoLane, NoPost
from alsoshown.nets import Net
from making import net_of, rows_of, small_nets

STRANGE = [None, 0, True, 1.5, b"a", ("a",), ["a"], {"a": 1}, object(), "", "A", "b2"]


class Case(unittest.TestCase):
    def refused(self, error, name, operation, *arguments):
        """Check which error an operation raises, and which name it carries."""
        with self.assertRaises(error) as caught:
            operation(*arguments)
        self.assertEqual(type(caught.exception), error)
        self.assertEqual(caught.exception.name, name)


class AddingTest(Case):
    def test_a_new_net_is_empty(self):
        net = Net()
        self.assertEqual((net.posts, net.lanes, len(net)), ((), (), 0))

    def test_posts_and_lanes_stand_in_the_order_in_which_they_were_added(self):
        net = net_of("v u w", "c u v, a v u, b w w")
        self.assertEqual(net.posts, ("v", "u", "w"))
        self.assertEqual(net.lanes, ("c", "a", "b"))
        self.assertEqual([net.start_of(lane) for lane in net.lanes], ["u", "v", "w"])
        self.assertEqual([net.end_of(lane) for lane in net.lanes], ["v", "u", "w"])

    def test_a_post_and_a_lane_may_have_the_same_name(self):
        net = net_of("a b", "a a b, b a a")
        self.assertEqual(rows_of(net), (("a", "b"), [("a", "a", "b"), ("b", "a", "a")]))

    def test_errors_of_post_in_their_order(self):
        net = net_of("u")
        self.refused(BadName, "U", net.post, "U")
        self.refused(NameTaken, "u", net.post, "u")
        self.assertEqual(net.posts, ("u",))

    def test_errors_of_lane_in_their_order(self):
        net = net_of("u", "a u u")
        self.refused(BadName, "A", net.lane, "A", "x", "y")
        self.refused(NameTaken, "a", net.lane, "a", "x", "y")
        self.refused(NameTaken, "a", net.lane, "a", "u", "u")
        self.refused(NoPost, "x", net.lane, "b", "x", "y")
        self.refused(NoPost, "y", net.lane, "b", "u", "y")
        self.refused(NoPost, "x", net.lane, "b", "x", "u")
        self.refused(NoPost, "a", net.lane, "b", "a", "u")
        self.assertEqual(rows_of(net), (("u",), [("a", "u", "u")]))


class AskingTest(Case):
    def setUp(self):
        self.net = net_of("u v w", "d u v, c v u, b u v, a u u, e u u")

    def test_start_and_end(self):
        self.assertEqual((self.net.start_of("c"), self.net.end_of("c")), ("v", "u"))
        for lane in ("u", "x", "", "A"):
            self.refused(NoLane, lane, self.net.start_of, lane)
            self.refused(NoLane, lane, self.net.end_of, lane)

    def test_lanes_between_two_posts(self):
        self.assertEqual(self.net["u", "v"], ("d", "b"))
        self.assertEqual(self.net["v", "u"], ("c",))
        self.assertEqual(self.net["u", "u"], ("a", "e"))
        self.assertEqual(self.net["v", "v"], ())
        self.assertEqual(self.net["w", "u"], ())

    def test_lanes_between_posts_that_are_none(self):
        self.refused(NoPost, "x", lambda: self.net["x", "y"])
        self.refused(NoPost, "y", lambda: self.net["u", "y"])
        self.refused(NoPost, "a", lambda: self.net["a", "u"])
        self.refused(NoPost, "x", lambda: Net()["x", "x"])

    def test_lanes_out_of_a_post(self):
        self.assertEqual(self.net.out_of("u"), ("d", "b", "a", "e"))
        self.assertEqual(self.net.out_of("v"), ("c",))
        self.assertEqual(self.net.out_of("w"), ())
        self.refused(NoPost, "a", self.net.out_of, "a")
        self.refused(NoPost, "", self.net.out_of, "")

    def test_what_is_in_a_net(self):
        for lane in "abcde":
            self.assertIs(lane in self.net, True)
        for post in "uvwx":
            self.assertIs(post in self.net, False)
        for strange in STRANGE:
            self.assertIs(strange in self.net, False)

    def test_the_number_of_lanes(self):
        self.assertEqual(len(self.net), 5)
        self.assertEqual(len(net_of("u v")), 0)

    def test_a_net_is_not_iterated_over(self):
        with self.assertRaises(TypeError):
            list(self.net)


class CuttingTest(Case):
    def test_cut_takes_one_lane_away(self):
        net = net_of("u v", "a u v, b u v, c v u")
        net.cut("b")
        self.assertEqual(rows_of(net), (("u", "v"), [("a", "u", "v"), ("c", "v", "u")]))
        self.assertEqual((len(net), "b" in net, net["u", "v"], net.out_of("u")), (2, False, ("a",), ("a",)))
        self.refused(NoLane, "b", net.start_of, "b")

    def test_a_lane_that_is_added_again_is_the_last_one(self):
        net = net_of("u v", "a u v, b u v, c v u")
        net.cut("a")
        net.lane("a", "u", "v")
        self.assertEqual(net.lanes, ("b", "c", "a"))
        self.assertEqual(net["u", "v"], ("b", "a"))
        net.cut("b")
        net.lane("b", "v", "v")
        self.assertEqual(rows_of(net)[1], [("c", "v", "u"), ("a", "u", "v"), ("b", "v", "v")])
        self.assertEqual(net.out_of("v"), ("c", "b"))

    def test_what_is_no_lane_is_not_cut(self):
        net = net_of("u v", "a u v")
        for wrong in ("b", "u", "", "A"):
            self.refused(NoLane, wrong, net.cut, wrong)
        self.assertEqual(rows_of(net), (("u", "v"), [("a", "u", "v")]))
        net.cut("a")
        self.refused(NoLane, "a", net.cut, "a")

    def test_a_copy_is_another_net(self):
        net = net_of("v u", "b u v, a v u")
        twin = net.copy()
        self.assertIsNot(twin, net)
        self.assertEqual(rows_of(twin), rows_of(net))
        net.cut("b")
        net.post("w")
        self.assertEqual(rows_of(twin), (("v", "u"), [("b", "u", "v"), ("a", "v", "u")]))
        twin.lane("c", "u", "u")
        self.assertEqual(rows_of(net), (("v", "u", "w"), [("a", "v", "u")]))


class OperatorsTest(Case):
    def setUp(self):
        self.net = net_of("u v w", "c u v, a v u, b w w")

    def test_without_lanes(self):
        self.assertEqual(rows_of(self.net - ("a",)), (("u", "v", "w"), [("c", "u", "v"), ("b", "w", "w")]))
        self.assertEqual((self.net - ("b", "c", "b")).lanes, ("a",))
        self.assertEqual((self.net - ["a", "b", "c"]).lanes, ())
        self.assertEqual((self.net - ["a", "b", "c"]).posts, ("u", "v", "w"))

    def test_without_no_lanes_it_is_another_net(self):
        left = self.net - ()
        self.assertEqual(rows_of(left), rows_of(self.net))
        left.cut("a")
        self.assertIn("a", self.net)

    def test_without_changes_nothing_that_was_passed(self):
        before, lanes = rows_of(self.net), ["a", "c"]
        left = self.net - lanes
        self.assertEqual((rows_of(self.net), lanes), (before, ["a", "c"]))
        lanes.append("b")
        self.assertEqual(left.lanes, ("b",))

    def test_without_lanes_that_are_none(self):
        self.refused(NoLane, "x", lambda: self.net - ("a", "x", "y"))
        self.refused(NoLane, "u", lambda: self.net - ("u",))
        self.refused(NoLane, "y", lambda: self.net - ["y", "x"])
        self.assertEqual(self.net.lanes, ("c", "a", "b"))

    def test_both_nets_in_order(self):
        one = net_of("v u", "d u v, a v u")
        two = net_of("x u w v", "e x w, a v u, b u v")
        self.assertEqual(rows_of(one | two), (
            ("v", "u", "x", "w"), [("d", "u", "v"), ("a", "v", "u"), ("e", "x", "w"), ("b", "u", "v")]))
        self.assertEqual(rows_of(two | one), (
            ("x", "u", "w", "v"), [("e", "x", "w"), ("a", "v", "u"), ("b", "u", "v"), ("d", "u", "v")]))

    def test_both_nets_make_another_one(self):
        one, two = net_of("u v", "a u v"), net_of("u v", "b v u")
        both = one | two
        both.cut("a")
        both.post("w")
        both.lane("c", "w", "u")
        self.assertEqual(rows_of(one), (("u", "v"), [("a", "u", "v")]))
        self.assertEqual(rows_of(two), (("u", "v"), [("b", "v", "u")]))
        one.post("x")
        two.cut("b")
        self.assertEqual(rows_of(both), (("u", "v", "w"), [("b", "v", "u"), ("c", "w", "u")]))

    def test_clashes_name_the_first_lane_of_one(self):
        one = net_of("u v", "d u v, c u v, b u u, a v v")
        two = net_of("u v", "a v v, b u v, c v v, e u u")
        before = rows_of(one), rows_of(two)
        self.refused(Clash, "c", lambda: one | two)
        self.refused(Clash, "b", lambda: two | one)
        self.refused(Clash, "a", lambda: net_of("u v", "a u v") | net_of("u w", "a u w"))
        self.refused(Clash, "a", lambda: net_of("u v", "a u v") | net_of("u v", "a v u"))
        self.assertEqual((rows_of(one), rows_of(two)), before)

    def test_in_place_changes_the_object_itself(self):
        one, two = net_of("v u", "a v u"), net_of("u w", "b u w")
        same = one
        one |= two
        self.assertIs(one, same)
        self.assertEqual(rows_of(same), (("v", "u", "w"), [("a", "v", "u"), ("b", "u", "w")]))
        self.assertEqual(rows_of(two), (("u", "w"), [("b", "u", "w")]))
        two.cut("b")
        two.post("x")
        self.assertEqual(rows_of(one), (("v", "u", "w"), [("a", "v", "u"), ("b", "u", "w")]))
        one.cut("a")
        one |= one
        self.assertIs(one, same)
        self.assertEqual(rows_of(one), (("v", "u", "w"), [("b", "u", "w")]))

    def test_a_refused_one_in_place_changes_nothing(self):
        one = same = net_of("u v", "a u v, b v u")
        with self.assertRaises(Clash) as caught:
            one |= net_of("x u v", "c x x, b v v")
        self.assertEqual(caught.exception.name, "b")
        self.assertIs(one, same)
        self.assertEqual(rows_of(one), (("u", "v"), [("a", "u", "v"), ("b", "v", "u")]))

    def test_the_opposite_net(self):
        back = -self.net
        self.assertEqual(rows_of(back), (("u", "v", "w"), [("c", "v", "u"), ("a", "u", "v"), ("b", "w", "w")]))
        self.assertEqual(rows_of(-back), rows_of(self.net))
        back.cut("c")
        self.assertIn("c", self.net)

    def test_a_net_within_another_one(self):
        less = net_of("v u", "c u v")
        self.assertIs(less <= self.net, True)
        self.assertIs(self.net <= less, False)
        self.assertIs(self.net <= self.net, True)
        self.assertIs(Net() <= less, True)
        self.assertIs(less <= Net(), False)
        self.assertIs(net_of("u v", "c v u") <= self.net, False)
        self.assertIs(net_of("u v w", "c u w") <= self.net, False)
        self.assertIs(net_of("u v x", "c u v") <= self.net, False)
        self.assertIs(net_of("u v", "c u v, d u v") <= self.net, False)

    def test_equal_nets(self):
        twin = net_of("w v u", "b w w, a v u, c u v")
        self.assertIs(self.net == twin, True)
        self.assertIs(self.net != twin, False)
        self.assertIs(self.net == self.net.copy(), True)
        self.assertIs(Net() == Net(), True)
        for other in (self.net - ("a",), -self.net, net_of("u v"), Net(), self.net | net_of("x")):
            self.assertIs(self.net == other, False)
            self.assertIs(other == self.net, False)
            self.assertIs(self.net != other, True)

    def test_nothing_else_equals_a_net(self):
        for strange in STRANGE + [self.net.lanes, rows_of(self.net)]:
            self.assertIs(self.net == strange, False)
            self.assertIs(self.net != strange, True)

    def test_only_nets_are_within_nets(self):
        with self.assertRaises(TypeError):
            self.net <= self.net.lanes

    def test_equal_means_within_in_both_directions(self):
        nets = [net for k, net in enumerate(small_nets()) if k % 23 == 0]
        for one in nets:
            for two in nets:
                self.assertEqual(one == two, one <= two and two <= one)
                self.assertEqual(one <= two, set(rows_of(one)[1]) <= set(rows_of(two)[1]))


class LimitsTest(Case):
    def test_somewhat_more_posts_and_lanes_than_the_limits(self):
        net = Net()
        for k in range(14):
            net.post(f"p{k}")
        for k in range(24):
            net.lane(f"l{k}", f"p{k % 14}", f"p{(k * 5 + 1) % 14}")
        self.assertEqual((len(net.posts), len(net)), (14, 24))
        self.assertEqual(len(net - net.lanes[:20]), 4)
        self.assertEqual(net | net, net)


if __name__ == "__main__":
    unittest.main()
