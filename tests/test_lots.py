"""Points 18, 20, 30 and 31: sets of lanes that are always taken, that are enough, and that are not."""

import random
import sys

from alsoshown.asked import Asked, avoiding
from alsoshown.errors import BadName, EmptyWalk
from alsoshown.lots import closed, loopholes, settling, wishes
from alsoshown.nets import parts_of
from alsoshown.patterns import Pattern, any_of, none_of, optional, repeated
from checks import AskedCase
from making import net_of, random_net, random_walk, ring_net, rows_of, small_nets
from searching import avoidable_sets, sets_of, taken_sets
from trees import Reader, built, random_tree, walk


def asked_of(source, net, most=3):
    """Some lanes of the net, wanted, such that there are rounds; None if the net has no part."""
    parts = parts_of(net)
    if not parts:
        return None
    lanes = source.choice(parts)[1]
    return Asked(net, source.sample(lanes, source.randint(1, min(most, len(lanes)))))


def least_of(rows):
    """Those sets that have no smaller one among them."""
    return [row for row in rows if not any(set(other) < set(row) for other in rows)]


def greatest_of(rows):
    return [row for row in rows if not any(set(other) > set(row) for other in rows)]


def rows_run(operation):
    """How many rows of the program are run in an operation."""
    count = 0

    def step(frame, event, told):
        nonlocal count
        count += event == "line"
        return step

    before = sys.gettrace()
    sys.settrace(step)
    try:
        operation()
    finally:
        sys.settrace(before)
    return count


class ClosedTest(AskedCase):
    def test_by_hand(self):
        # b and c go to v and back, d and e to w and back; a is a lane of u alone, f leads out of the part.
        net = net_of("u v w x", "c v u, a u u, e w u, b u v, d u w, f u x")
        for wanted, expected in ((("b",), ("c", "b")), (("c",), ("c", "b")), (("a",), ("a",)),
                                 (("d", "a"), ("a", "e", "d")),
                                 (["e", "c"], ("c", "e", "b", "d"))):
            self.assertEqual(closed(Asked(net, wanted)), expected)

    def test_single_ring(self):
        self.assertEqual(closed(Asked(ring_net(10), ("l3",))), ring_net(10).lanes)

    def test_a_lane_beside_another_one(self):
        net = net_of("u v", "a u v, b u v, c v u")
        self.assertEqual(closed(Asked(net, ("c",))), ("c",))
        self.assertEqual(closed(Asked(net, ("b",))), ("b", "c"))

    def test_no_rounds(self):
        none = Asked(net_of("u v w", "a u v, b v v, c w u, d w w"), ("d", "b"))
        for question in (closed, wishes):
            self.no_round(none, lambda: question(none))

    def test_all_sets_of_lanes_of_small_nets(self):
        source = random.Random(300)
        for net in list(small_nets())[1::9]:
            asked = asked_of(source, net)
            if asked is None:
                continue
            rounds = [taken for taken in taken_sets(net) if taken >= set(asked.wanted)]
            always = tuple(lane for lane in net.lanes if all(lane in taken for taken in rounds))
            self.assertEqual(closed(asked), always)
            again = Asked(net, always)
            self.assertEqual(closed(again), always)
            self.assertEqual([taken for taken in taken_sets(net) if taken >= set(always)], rounds)

    def test_nets_near_the_limits(self):
        source = random.Random(301)
        for posts, lanes in ((10, 16), (10, 11), (4, 16), (1, 16), (12, 20)):
            net = random_net(source, posts, lanes)
            asked = Asked(net, net.lanes[:3])
            found = closed(asked)
            self.assertEqual(closed(Asked(net, found)), found)
            for lane in net.lanes:
                # Without a lane that is always taken, no round takes the wanted lanes.
                left = [other for other in asked.wanted if other != lane]
                whole = len(left) == 3 and bool(Asked(net - (lane,), left))
                self.assertEqual(lane in found, not whole)


class WishesTest(AskedCase):
    def test_by_hand(self):
        net = net_of("u v w", "c v u, a u u, e w u, b u v, d u w")
        self.assertEqual(wishes(Asked(net, ("b",))), [("c",), ("b",)])
        self.assertEqual(wishes(Asked(net, ("b", "d"))), [("c", "e"), ("c", "d"), ("e", "b"), ("b", "d")])
        self.assertEqual(wishes(Asked(net, ["a"])), [("a",)])
        self.assertEqual(wishes(Asked(net, net.lanes)),
                         [("c", "a", "e"), ("c", "a", "d"), ("a", "e", "b"), ("a", "b", "d")])

    def test_single_ring(self):
        net = ring_net(5)
        for wanted in (("l0",), ("l1", "l4"), net.lanes):
            self.assertEqual(wishes(Asked(net, wanted)), [(lane,) for lane in net.lanes])

    def test_the_order_is_that_of_the_places(self):
        # From u a ring leads through v, two lanes long; its lanes are the first and the last one of the net.
        net = net_of("u v w", "z u v, m u w, k w u, b v u")
        self.assertEqual(wishes(Asked(net, net.lanes)), [("z", "m"), ("z", "k"), ("m", "b"), ("k", "b")])

    def test_sets_of_several_lengths(self):
        # p and q are two ways from v to w: who takes both of them takes the way back, r, and so l as well.
        net = net_of("u v w", "l u v, p v w, q v w, r w u, s w v")
        asked = Asked(net, ("l", "p"))
        self.assertEqual(closed(asked), ("l", "p", "r"))
        self.assertEqual(wishes(asked), [("l", "p"), ("p", "r")])

    def test_all_sets_of_lanes_of_small_nets(self):
        source = random.Random(302)
        longest = 0
        for net in list(small_nets())[2::7]:
            asked = asked_of(source, net, 4)
            if asked is None:
                continue
            rounds = taken_sets(net)
            enough = [row for row in sets_of(closed(asked))
                      if all(taken >= set(asked.wanted) for taken in rounds if taken >= set(row))]
            found = wishes(asked)
            self.assertEqual(found, least_of(enough))
            longest = max([longest, *map(len, found)])
            for row in found:
                self.assertIsInstance(row, tuple)
        self.assertGreaterEqual(longest, 3)

    def test_random_nets(self):
        source = random.Random(303)
        for _ in range(60):
            net = random_net(source, source.randint(1, 4), source.randint(4, 8))
            asked = asked_of(source, net, 5)
            rounds = taken_sets(net)
            enough = [row for row in sets_of(closed(asked))
                      if all(taken >= set(asked.wanted) for taken in rounds if taken >= set(row))]
            self.assertEqual(wishes(asked), least_of(enough))

    def test_nets_near_the_limits(self):
        source = random.Random(304)
        for many in (1, 4, 10, 12):
            net = net_of("u", ", ".join(f"l{k} u u" for k in range(16)))
            wanted = source.sample(net.lanes, many)
            self.assertEqual(wishes(Asked(net, wanted)), [tuple(lane for lane in net.lanes if lane in wanted)])
        net = random_net(source, 10, 16)
        for many in (1, 2):
            asked = Asked(net, net.lanes[:many])
            for row in wishes(asked):
                self.assertTrue(set(row) <= set(closed(asked)))
                self.assertEqual(closed(Asked(net, row)), closed(asked))


class LoopholesTest(AskedCase):
    def setUp(self):
        self.net = net_of("u v w", "a u u, b u v, c v u, d w w")

    def has_loopholes(self, asked, tree):
        """Check the loopholes and the sets that settle the pattern, and return them."""
        reader, pattern, lanes = Reader(tree), built(tree), asked.part()[1]
        found, settled = loopholes(asked, pattern), settling(asked, pattern)
        self.assertEqual(found, avoidable_sets(asked.net, asked.part(), reader))
        for row in found:
            self.assertIsInstance(row, tuple)
            ring = avoiding(Asked(asked.net, row), pattern)
            self.assertTrue(set(row) <= set(ring.lanes))
            self.assertFalse(reader.shown_by(ring.lanes))
        sure = [row for row in sets_of(lanes) if not any(set(row) <= set(other) for other in found)]
        self.assertEqual(settled, least_of(sure))
        for row in sure[:5] + settled[-5:]:
            self.assertEqual(Asked(asked.net, row)(pattern), "sure")
        return found, settled

    def test_by_hand(self):
        asked = Asked(self.net, ("a",))
        for pattern, greatest, least in (
                (("a",), [("b", "c")], [("a",)]), (("b",), [("a",)], [("b",), ("c",)]),
                (("x",), [("a", "b", "c")], []), (["a", "b"], [("a",), ("b", "c")], [("a", "b"), ("a", "c")]),
                (any_of("a", "b"), [], [("a",), ("b",), ("c",)]),
                (("a", "a"), [("a", "b", "c")], []), (("d",), [("a", "b", "c")], []),
                (none_of(), [], [("a",), ("b",), ("c",)])):
            self.assertEqual(loopholes(asked, pattern), greatest)
            self.assertEqual(settling(asked, pattern), least)

    def test_the_wanted_lanes_only_tell_the_part(self):
        for wanted in (("a",), ("b",), ("c", "a")):
            asked = Asked(self.net, wanted)
            self.assertEqual(loopholes(asked, ("a", "b")), [("a",), ("b", "c")])
        asked = Asked(self.net, ["d"])
        self.assertEqual((loopholes(asked, ("a",)), settling(asked, ("a",))), ([("d",)], []))
        self.assertEqual((loopholes(asked, ("d",)), settling(asked, ("d",))), ([], [("d",)]))

    def test_the_empty_word(self):
        for pattern in (optional(any_of("x")), repeated(none_of()), repeated(any_of("a")) + optional(any_of("b"))):
            for wanted, lanes in ((("a",), [("a",), ("b",), ("c",)]), (("d",), [("d",)])):
                asked = Asked(self.net, wanted)
                self.assertEqual((loopholes(asked, pattern), settling(asked, pattern)), ([], lanes))

    def test_the_errors_in_their_order(self):
        none = Asked(net_of("u v w", "a u v, b v v, c w u, d w w"), ("d", "b"))
        for question in (loopholes, settling):
            for asked in (none, Asked(self.net, ("a",))):
                for lanes in ((), []):
                    with self.assertRaises(EmptyWalk):
                        question(asked, lanes)
                with self.assertRaises(BadName) as caught:
                    question(asked, ("a", "B", 1))
                self.assertEqual(caught.exception.name, "B")
            for pattern in (("a",), any_of("b"), optional(any_of("x")), Pattern.read("(.)*")):
                self.no_round(none, lambda: question(none, pattern))

    def test_walks_in_small_nets(self):
        source = random.Random(310)
        for net in list(small_nets())[3::11]:
            asked = asked_of(source, net)
            if asked is not None:
                lanes = tuple(source.choice(asked.part()[1]) for _ in range(source.randint(1, 3)))
                found, settled = self.has_loopholes(asked, walk(lanes))
                self.assertEqual((loopholes(asked, lanes), settling(asked, list(lanes))), (found, settled))

    def test_patterns_in_random_nets(self):
        source = random.Random(311)
        several = 0
        for number in range(400):
            net = random_net(source, source.randint(1, 4), source.randint(3, 7), source.random() < 0.6)
            asked = asked_of(source, net)
            if asked is not None:
                tree = random_tree(source, [*net.lanes, "x"], source.randint(1, 5))
                if number % 2:
                    tree = ("or", walk(random_walk(source, net, 2)), walk(random_walk(source, net, 2)))
                found, settled = self.has_loopholes(asked, tree)
                several += len(found) > 1 and len(settled) > 1
        self.assertGreater(several, 10)

    def test_the_verdict_for_each_set(self):
        source = random.Random(312)
        for _ in range(25):
            net = random_net(source, 3, 5)
            asked = Asked(net, net.lanes[:1])
            pattern = built(random_tree(source, net.lanes, 3))
            found = loopholes(asked, pattern)
            for row in sets_of(net.lanes):
                within = any(set(row) <= set(other) for other in found)
                self.assertEqual(Asked(net, row)(pattern) == "sure", not within)
            self.assertEqual(found, greatest_of(found))

    def test_nets_near_the_limits(self):
        source = random.Random(313)
        for posts, lanes in ((10, 14), (1, 14), (3, 14), (10, 16)):
            net = random_net(source, posts, lanes)
            asked = Asked(net, net.lanes[:2])
            for pattern in (Pattern.read("[l0 l1 l2 l3 l4 l5] . . . . . . [l7 l9 l0]"),
                            built(random_tree(source, net.lanes, 8)),
                            any_of("l3") + repeated(none_of("l5", "l6", "l7")) + any_of("l4")):
                found, settled = loopholes(asked, pattern), settling(asked, pattern)
                for row in found[:6]:
                    self.assertIsNotNone(avoiding(Asked(net, row), pattern))
                for row in settled[:6]:
                    self.assertIsNone(avoiding(Asked(net, row), pattern))
                    self.assertFalse(any(set(row) <= set(other) for other in found))

    def test_half_of_many_lanes(self):
        # All pairs of lanes of one post are shown in a row: seven lanes each of which may not follow the other seven.
        net = net_of("u", ", ".join(f"l{k} u u" for k in range(14)))
        ones, twos = net.lanes[:7], net.lanes[7:]
        asked = Asked(net, ("l0",))
        pattern = any_of(*ones) + any_of(*twos)
        self.assertEqual(loopholes(asked, pattern), [ones, twos])
        self.assertEqual(settling(asked, pattern), [(one, two) for one in ones for two in twos])


class FourteenLanesTest(AskedCase):
    """Point 31 at its limit of 14 inner lanes: two lanes from each of seven posts, all of them in one part."""

    def setUp(self):
        rows = [f"a{k} p{k} p{(k + 1) % 7}" for k in range(7)] + [f"b{k} p{k} p{(3 * k + 2) % 7}" for k in range(7)]
        self.net = net_of(" ".join(f"p{k}" for k in range(7)), ", ".join(rows))
        self.asked = Asked(self.net, ("a0",))
        self.singles = [(lane,) for lane in self.net.lanes]

    def test_by_hand(self):
        for pattern, expected in (
                # A round can take all the other lanes without a1.
                (any_of("a1"), [("a1",)]), (optional(any_of("a1")), self.singles), (("a1",), [("a1",)]),
                (any_of("a1", "b6"), [("a1",), ("b6",)]), (none_of(), self.singles), (("x",), []),
                (none_of("b6") | any_of("b6"), self.singles), (("a1", "b2"), []),
                # Of the ways back from a1 to a1, only b2 has less than three lanes.
                (none_of("a1") * 3, [single for single in self.singles if single not in (("a1",), ("b2",))]),
                (any_of("a1") + repeated(none_of()) + any_of("a2"), [("a1", "a2")]),
                (any_of("a0", "a1") + none_of() * 2, [("a0",), ("a1",)])):
            self.assertEqual(settling(self.asked, pattern), expected)

    def test_every_wanted_lane(self):
        for lane in self.net.lanes:
            asked = Asked(self.net, (lane, "a0"))
            self.assertEqual(settling(asked, any_of("a1")), [("a1",)])
            self.assertEqual(settling(asked, optional(any_of("a1"))), self.singles)
        # Only a5 leads to p6 from elsewhere, and only a6 away: a round without a5 takes b6 alone, or neither of these.
        expected = [(lane,) if lane in ("a5", "a6") else (lane, "b6") for lane in self.net.lanes if lane != "b6"]
        self.assertEqual(settling(self.asked, ("a5",)), expected)

    def test_against_all_sets_of_lanes(self):
        source = random.Random(314)
        trees = [("any", ("a1",)), ("maybe", ("any", ("a1",))),
                 ("or", ("any", ("a0", "a2")), ("then", ("any", ("b1", "a6")), ("any", ("b5", "a0"))))]
        for _ in range(6):
            trees.append(random_tree(source, self.net.lanes, source.randint(2, 5)))
            left, right = source.sample(self.net.lanes, 4), source.sample(self.net.lanes, 4)
            trees.append(("or", ("any", left[:2]), ("then", ("any", left[2:]), ("any", right))))
            trees.append(("or", ("any", right[:2]), walk(random_walk(source, self.net, 2))))
        most = 0
        for tree in trees:
            asked = Asked(self.net, source.sample(self.net.lanes, 2))
            found = avoidable_sets(self.net, asked.part(), Reader(tree))
            self.assertEqual(loopholes(asked, built(tree)), found)
            outside = {row for row in sets_of(self.net.lanes) if not any(set(row) <= set(other) for other in found)}
            least = [row for row in sets_of(self.net.lanes) if row in outside
                     and not any(tuple(lane for lane in row if lane != other) in outside for other in row)]
            self.assertEqual(settling(asked, built(tree)), least)
            most = max(most, len(least))
        self.assertGreater(most, 20)

    def test_few_steps(self):
        # There are 16384 sets of these lanes; an answer does not go through them one by one.
        for pattern in (any_of("a1"), optional(any_of("a1")), none_of("a1") * 3, ("a1", "b2")):
            self.assertLess(rows_run(lambda: settling(self.asked, pattern)), 50000)


class KeepingTest(AskedCase):
    def test_nothing_is_changed(self):
        net = net_of("u v", "a u u, b u v, c v u")
        asked, before, lanes = Asked(net, ["b"]), rows_of(net), ["a", "b"]
        for question in (closed, wishes):
            question(asked)
        for question in (loopholes, settling):
            question(asked, lanes).clear()
            self.assertEqual(len(question(asked, lanes)), 2)
        wishes(asked).clear()
        self.assertEqual((lanes, rows_of(net), rows_of(asked.net)), (["a", "b"], before, before))
        self.assertEqual(wishes(asked), [("b",), ("c",)])
        self.assertIsInstance(closed(asked), tuple)
