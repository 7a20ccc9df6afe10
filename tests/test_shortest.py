"""Points 13, 18, 20 and 40: the shortest rounds."""

import random
import unittest

from alsoshown.asked import Asked
from alsoshown.errors import BadName, EmptyWalk
from alsoshown.nets import parts_of
from alsoshown.patterns import Pattern, any_of, none_of, optional, repeated, walk_of
from alsoshown.shortest import shortest
from checks import AskedCase
from making import net_of, random_net, random_walk, ring_net, rounds_taking, rows_of, small_nets
from searching import Nothing, shortest_ring
from trees import Reader, built, random_tree, walk


class ShortestTest(AskedCase):
    def is_shortest(self, asked, tree, count):
        """Check that the shortest round has so many lanes; None stands for no pattern, or for no round."""
        pattern = None if tree is None else built(tree)
        ring = shortest(asked) if tree is None else shortest(asked, pattern)
        if tree is not None:
            self.assertEqual(ring is None, asked(pattern) == "sure")
        if count is None:
            self.assertIsNone(ring)
            return
        self.is_round_of(ring, asked)
        self.assertEqual(len(ring), count)
        if tree is not None:
            self.assertFalse(Reader(tree).shown_by(ring.lanes))

    def test_by_hand(self):
        # From u a ring of three leads through v and w, one of two through x, and a is a lane of u alone.
        net = net_of("u v w x", "a u u, b u v, c v w, d w u, e u x, f x u, g v u")
        for wanted, pattern, count in (
                (("a",), None, 1), (("b",), None, 2), (("c",), None, 3), (("a", "e"), None, 3),
                (("c", "f", "a"), None, 6),
                (("b",), ("g",), 3), (("b",), any_of("g", "d"), None), (("a", "e"), ("a", "e"), 5),
                (("a", "b"), any_of("a") + any_of("b", "e"), None), (("a",), ("a", "a"), 3), (("a",), ("b",), 1),
                (("e",), none_of("e", "f"), 2), (("e",), ("e", "f", "e"), 3), (["g", "c"], walk_of("d", "b"), 6),
                (("a",), none_of(), None), (("a",), optional(any_of("x")), None), (("b",), repeated(none_of()), None),
                (("a", "e", "g"), any_of("a") * 2, 5)):
            asked = Asked(net, wanted)
            ring = shortest(asked) if pattern is None else shortest(asked, pattern)
            if count is None:
                self.assertIsNone(ring, pattern)
            else:
                self.is_round_of(ring, asked)
                self.assertEqual(len(ring), count, pattern)

    def test_no_pattern_is_none(self):
        asked = Asked(ring_net(4), ("l2",))
        for ring in (shortest(asked), shortest(asked, None), shortest(asked, ("x0",)), shortest(asked, ["l1", "l3"])):
            self.assertEqual(ring, asked.round())
            self.assertEqual(len(ring), 4)
        self.assertIsNone(shortest(asked, ("l1",)))

    def test_single_rings(self):
        for many in (1, 2, 10, 14):
            for wanted in (("l0",), ring_net(many).lanes[:5]):
                asked = Asked(ring_net(many), wanted)
                self.assertEqual(len(shortest(asked)), many)
                self.assertIsNone(shortest(asked, ("l0",) * 1))
                self.assertEqual(len(shortest(asked, ("l0", "x"))), many)

    def test_the_errors_in_their_order(self):
        net = net_of("u v", "a u v, b v v")
        none, asked = Asked(net, ("b", "a")), Asked(net, ("b",))
        for one in (none, asked):
            for lanes in ((), []):
                with self.assertRaises(EmptyWalk):
                    shortest(one, lanes)
            with self.assertRaises(BadName) as caught:
                shortest(one, ["a", "", "B"])
            self.assertEqual(caught.exception.name, "")
        self.no_round(none, lambda: shortest(none))
        for pattern in (None, ("a",), any_of("b"), optional(any_of("b"))):
            self.no_round(none, lambda: shortest(none, pattern))

    def test_rounds_of_small_nets(self):
        source = random.Random(400)
        counts = [0, 0]
        for net in list(small_nets())[1::4]:
            parts = parts_of(net)
            if not parts:
                continue
            lanes = source.choice(parts)[1]
            asked = Asked(net, source.sample(lanes, source.randint(1, min(2, len(lanes)))))
            rounds = rounds_taking(net, asked.wanted, 6)
            self.assertEqual(len(shortest(asked)), min(map(len, rounds)))
            tree = random_tree(source, lanes, source.randint(1, 4))
            without = [len(ring) for ring in rounds if not Reader(tree).shown_by(ring)]
            ring = shortest(asked, built(tree))
            counts[ring is None] += 1
            if ring is None or len(ring) > 6:
                self.assertEqual(without, [])
            else:
                self.is_shortest(asked, tree, min(without))
        self.assertGreater(min(counts), 10)

    def test_a_search_by_levels(self):
        source = random.Random(401)
        lengths = []
        for number in range(150):
            net = random_net(source, source.randint(1, 5), source.randint(5, 9))
            asked = Asked(net, source.sample(net.lanes, source.randint(1, 5)))
            tree = random_tree(source, [*net.lanes, "x"], source.randint(1, 5))
            if number % 2:
                tree = walk(random_walk(source, net, 5)[-source.randint(1, 4):])
            count = shortest_ring(net, asked.wanted, Reader(tree))
            self.is_shortest(asked, tree, count)
            self.is_shortest(asked, None, shortest_ring(net, asked.wanted, Nothing()))
            lengths.append(count)
        self.assertGreater(lengths.count(None), 20)
        self.assertGreater(len([count for count in lengths if count and count > 5]), 10)

    def test_words_that_are_shown_only_by_going_round_several_times(self):
        asked = Asked(net_of("u", "a u u, b u u"), ("a", "b"))
        for text, count in (("a b", None), ("a b a", 3), ("b a b", 3), ("a b a b a", 3), ("b b", 2), ("b . . b", 2),
                            ("b . b", 3), ("(a b a | b a b)", 4), ("a (b)* a b a", 3), ("a b a . . . . b a b", 3)):
            self.is_shortest_for(asked, Pattern.read(text), count)

    def is_shortest_for(self, asked, pattern, count):
        ring = shortest(asked, pattern)
        self.assertEqual((ring is None, ring and len(ring)), (count is None, count), pattern.text)
        if ring is not None:
            self.is_round_of(ring, asked)
            self.assertTrue(all(word not in pattern for k in range(len(ring)) for many in range(1, 25)
                                for word in [tuple(ring[k + step] for step in range(many))]))

    def test_nets_and_patterns_near_the_limits(self):
        source = random.Random(402)
        for posts, lanes in ((10, 16), (5, 16), (2, 16), (1, 16), (12, 20)):
            net = random_net(source, posts, lanes)
            asked = Asked(net, source.sample(net.lanes, 5))
            self.is_shortest(asked, None, len(shortest(asked)))
            for text in ("[l0 l1 l2 l3 l4 l5 l6 l7] . . . x", ". l1 . l2 .", "[l8 l9] . . . l1",
                         "l0 (([l3 l4] | l5))* l6",
                         "[l0 l1 l2 l3 l4 l5 l6 l7] . . . . . x"):
                pattern = Pattern.read(text)
                ring = shortest(asked, pattern)
                self.assertEqual(ring is None, asked(pattern) == "sure")
                if ring is not None:
                    self.is_round_of(ring, asked)
                    self.assertGreaterEqual(len(ring), len(shortest(asked)))

    def test_the_net_turned_about(self):
        source = random.Random(403)
        for _ in range(60):
            net = random_net(source, source.randint(1, 4), source.randint(4, 8))
            asked = Asked(net, source.sample(net.lanes, source.randint(1, 4)))
            back = Asked(-net, asked.wanted)
            pattern = built(random_tree(source, net.lanes, 4))
            one, two = shortest(asked, pattern), shortest(back, -pattern)
            self.assertEqual(one is None, two is None)
            if one is not None:
                self.assertEqual(len(one), len(two))
                self.is_round_of(-two, asked)

    def test_nothing_is_changed(self):
        net = net_of("u v", "a u u, b u v, c v u")
        asked, before, lanes = Asked(net, ["b"]), rows_of(net), ["b", "c", "b"]
        self.assertEqual(len(shortest(asked, lanes)), 3)
        self.assertEqual((lanes, rows_of(net), rows_of(asked.net)), (["b", "c", "b"], before, before))


if __name__ == "__main__":
    unittest.main()
