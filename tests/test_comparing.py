"""Points 20, 27, 28, 44 and 45: nets compared."""

import random

from alsoshown.asked import Asked
from alsoshown.comparing import parting_round, parting_stretch
from alsoshown.errors import NoLane, NoRound, OneRing
from alsoshown.longest import longest
from alsoshown.nets import Net
from alsoshown.rounds import Round, fits
from checks import AskedCase
from making import net_of, random_net, ring_net, rounds_taking, rows_of


def renamed(source, net):
    """The same lanes in another order on posts that are called otherwise."""
    posts = list(net.posts)
    source.shuffle(posts)
    names = {post: f"q{k}" for k, post in enumerate(posts)}
    rows = rows_of(net)[1]
    source.shuffle(rows)
    made = Net()
    for post in posts:
        made.post(names[post])
    for lane, start, end in rows:
        made.lane(lane, names[start], names[end])
    return made


def changed(source, net):
    """A net in which one lane leads elsewhere."""
    rows = rows_of(net)[1]
    k = source.randrange(len(rows))
    rows[k] = (rows[k][0], rows[k][1], source.choice(net.posts))
    made = Net()
    for post in net.posts:
        made.post(post)
    for row in rows:
        made.lane(*row)
    return made


def some_pair(source, posts, lanes, most=3):
    """Two Asked objects with the same wanted lanes on nets that are alike."""
    net = random_net(source, posts, lanes, source.random() < 0.7)
    other = changed(source, net) if source.random() < 0.7 else net
    if source.random() < 0.5:
        spare = source.choice(net.lanes)
        other = other - (spare,)
    wanted = source.sample(other.lanes, source.randint(1, min(most, len(other))))
    pair = [Asked(net, wanted), Asked(renamed(source, other), wanted[::-1])]
    source.shuffle(pair)
    return pair


def is_round_of(ring, asked):
    return fits(asked.net, ring) and set(asked.wanted) <= set(ring.lanes)


def greatest(asked):
    """The greatest sure stretches, or the ring of which all rounds are multiples."""
    try:
        return list(longest(asked))
    except OneRing as e:
        return e.ring


class ErrorsTest(AskedCase):
    def test_wanted_lanes_that_the_other_one_does_not_want(self):
        net = net_of("u v", "d u v, c v u, b u u, a v v")
        none = net_of("u v", "a u v, b u v, c u v, d u v")
        for one, two, name in ((("a", "b"), ("b", "c"), "a"), (("b", "c"), ("a", "b", "c"), "a"), (("a",), ("d",), "a"),
                               (("a", "b", "c"), ("b",), "c"), (("a", "d"), ("b", "c"), "d"),
                               (("c",), ("a", "b", "c", "d"), "d")):
            for operation in (parting_round, parting_stretch):
                with self.assertRaises(NoLane) as caught:
                    operation(Asked(net, one), Asked(net, two))
                self.assertEqual(caught.exception.name, name)
                with self.assertRaises(NoLane):
                    operation(Asked(none, one), Asked(net, two))
        with self.assertRaises(NoLane) as caught:
            parting_stretch(Asked(none, ("b", "c")), Asked(net, ("c", "d", "b", "a")))
        self.assertEqual(caught.exception.name, "d")

    def test_no_rounds_of_one_and_then_of_the_other(self):
        net = net_of("u v", "a u u, b u v, c v u")
        none = Asked(net_of("u v w", "b u v, a u w, c w u"), ("a", "b"))
        other = Asked(net_of("u v w x", "x w x, a w x, b v u"), ("b", "a"))
        good = Asked(net, ("a", "b"))
        self.no_round(none, lambda: parting_stretch(none, good))
        self.no_round(none, lambda: parting_stretch(good, none))
        self.no_round(other, lambda: parting_stretch(other, none))
        self.no_round(none, lambda: parting_stretch(none, other))
        with self.assertRaises(NoRound) as caught:
            parting_stretch(none, other)
        self.assertEqual((caught.exception.first, caught.exception.second), ("b", "b"))
        with self.assertRaises(NoRound) as caught:
            parting_stretch(other, none)
        self.assertEqual((caught.exception.first, caught.exception.second), ("a", "a"))


class RoundTest(AskedCase):
    def test_without_rounds(self):
        net = net_of("u v", "a u u, b u v, c v u")
        good = Asked(net, ("a", "b"))
        none = Asked(net_of("u v w", "b u v, a u w, c w u"), ("a", "b"))
        self.assertIsNone(parting_round(none, none))
        for ring in (parting_round(good, none), parting_round(none, good)):
            self.is_round_of(ring, good)

    def test_by_hand(self):
        net = net_of("u v", "a u u, b u v, c v u")
        one = Asked(net, ("b",))
        for other in (net_of("v u", "c u v, b v u, a v v"), net_of("x u v y", "d x x, c v u, a u u, b u v, e u y")):
            self.assertIsNone(parting_round(one, Asked(other, ("b",))))
            self.assertIsNone(parting_round(Asked(other, ["b", "b"]), one))
        # Here a lies behind b instead of before it.
        other = Asked(net_of("u v", "a v v, b u v, c v u"), ("b",))
        ring = parting_round(one, other)
        self.assertNotEqual(is_round_of(ring, one), is_round_of(ring, other))
        # One lane more, or one lane that leads out of the part.
        for other in (net_of("u v", "a u u, b u v, c v u, d v v"), net_of("u v w", "a u w, b u v, c v u"),
                      net - ("a",)):
            for pair in ((one, Asked(other, ("b",))), (Asked(other, ("b",)), one)):
                ring = parting_round(*pair)
                self.assertEqual([is_round_of(ring, asked) for asked in pair].count(True), 1)

    def test_random_pairs(self):
        source = random.Random(440)
        counts = [0, 0]
        for _ in range(300):
            one, two = some_pair(source, source.randint(1, 4), source.randint(2, 5))
            ring = parting_round(one, two)
            rounds = [{Round(lanes).least() for lanes in rounds_taking(asked.net, asked.wanted, 5)} for asked in (one,
                two)]
            counts[ring is None] += 1
            if ring is None:
                self.assertEqual(*rounds)
            else:
                self.assertIsInstance(ring, Round)
                self.assertNotEqual(is_round_of(ring, one), is_round_of(ring, two))
            self.assertEqual(parting_round(two, one) is None, ring is None)
        self.assertGreater(min(counts), 40)

    def test_pairs_near_the_limits(self):
        source = random.Random(441)
        for _ in range(8):
            one, two = some_pair(source, 10, 16, 16)
            ring = parting_round(one, two)
            if ring is not None:
                self.assertNotEqual(is_round_of(ring, one), is_round_of(ring, two))
            self.assertIsNone(parting_round(one, Asked(renamed(source, one.net), one.wanted)))


class StretchTest(AskedCase):
    def parts(self, one, two):
        """Check what parting_stretch returns, and return it."""
        found = parting_stretch(one, two)
        self.assertEqual(found is None, greatest(one) == greatest(two))
        self.assertEqual(parting_stretch(two, one) is None, found is None)
        if found is not None:
            self.assertIsInstance(found, tuple)
            self.assertTrue(1 <= len(found) <= 60)
            self.assertEqual([asked(found) for asked in (one, two)].count("sure"), 1, found)
        return found

    def test_by_hand(self):
        net = net_of("u v", "a u u, b u v, c v u")
        one = Asked(net, ("b",))
        self.assertIsNone(self.parts(one, Asked(net_of("v u", "c u v, b v u, a v v"), ("b",))))
        # Other rounds, but b is always followed by c: the same stretches are sure.
        self.assertIsNone(self.parts(one, Asked(net_of("u v", "a u u, d u u, b u v, c v u"), ("b",))))
        self.assertIn(self.parts(one, Asked(net_of("u v", "a v v, b u v, c v u"), ("b",))), [("b", "c"), ("c", "b")])
        self.assertEqual(self.parts(one, Asked(net_of("u v", "b u v, c v u, d v u"), ("b",))), ("c",))

    def test_single_rings(self):
        net = ring_net(4)
        one = Asked(net, ("l0", "l2"))
        self.assertIsNone(self.parts(one, Asked(net_of("u v w x y", "l2 w x, l1 v w, l3 x u, l0 u v, m x y"),
                                                ("l2", "l0"))))
        self.assertEqual(len(self.parts(one, Asked(net_of("u v", "l0 u v, l2 v u"), ("l0", "l2")))), 1)
        turned = Asked(net_of("u v w x", "l0 u v, l3 v w, l2 w x, l1 x u"), ("l0", "l2"))
        self.assertEqual(len(self.parts(one, turned)), 2)
        for many in (1, 2, 9, 14):
            ring = Asked(ring_net(many), ("l0",))
            self.assertIsNone(self.parts(ring, Asked(ring_net(many), ("l0",))))
            self.assertEqual(self.parts(ring, Asked(ring_net(many + 1), ("l0",))), (f"l{many}",))

    def test_a_ring_and_the_ring_with_more_lanes(self):
        source = random.Random(450)
        for many in (1, 2, 4, 7):
            net = ring_net(many)
            for start in range(many):
                for end in range(many):
                    more = net.copy()
                    more.lane("x", f"p{start}", f"p{end}")
                    wanted = source.sample(net.lanes, source.randint(1, many))
                    for asked in (Asked(more, wanted), Asked(more, net.lanes)):
                        found = self.parts(Asked(net, asked.wanted), asked)
                        self.assertIn(found, asked.round() if asked(found) == "sure" else Round(net.lanes))

    def test_random_pairs(self):
        source = random.Random(451)
        lengths = {}
        for number in range(400):
            one, two = some_pair(source, source.randint(1, 5), source.randint(2, 9), 2 + number % 8)
            if one and two:
                found = self.parts(one, two)
                size = 0 if found is None else len(found)
                lengths[size] = lengths.get(size, 0) + 1
        self.assertGreater(min(lengths[0], lengths[1], lengths[2]), 10)
        self.assertGreater(max(lengths), 2)

    def test_there_is_no_shorter_one(self):
        source = random.Random(452)
        for _ in range(150):
            one, two = some_pair(source, 3, 6, 6)
            if one and two:
                found = self.parts(one, two)
                many = 3 if found is None else len(found) - 1
                rows = [()]
                for _ in range(min(many, 3)):
                    rows = [row + (lane,) for row in rows for lane in {*one.net.lanes, *two.net.lanes}]
                    rows = [row for row in rows if "sure" in (one(row), two(row))]
                    for row in rows:
                        self.assertEqual(one(row) == "sure", two(row) == "sure")

    def test_pairs_near_the_limits(self):
        source = random.Random(453)
        for _ in range(12):
            one, two = some_pair(source, 10, 16, 16)
            if one and two:
                self.parts(one, two)
                self.assertIsNone(parting_stretch(one, Asked(renamed(source, one.net), one.wanted)))

    def test_long_stretches(self):
        # A way of nine lanes leads from p0 to p9. Two lanes lead back, or three, of which only two are wanted.
        net = ring_net(10) - ("l9",)
        net.lane("a", "p9", "p0")
        net.lane("b", "p9", "p0")
        more = net.copy()
        more.lane("c", "p9", "p0")
        way = tuple(f"l{k}" for k in range(9))
        one, two = Asked(net, ("a", "b")), Asked(more, ("b", "a"))
        self.assertEqual(one(("b",) + way + ("a",)), "sure")
        self.assertIn(self.parts(one, two), [("a", *way, "b"), ("b", *way, "a")])
        self.assertIn(self.parts(Asked(net, net.lanes), Asked(more, net.lanes)), [("a", *way, "b"), ("b", *way, "a")])

    def test_a_ring_and_a_part_with_more_lanes_than_posts(self):
        # Only if the ring is gone twice, it shows something that the other net lacks.
        ring, other = net_of("u v", "a u v, b v u"), net_of("u v", "a u v, b v u, c v u")
        found = self.parts(Asked(ring, ("a",)), Asked(other, ("a",)))
        self.assertEqual(found, ("b",))
        self.assertEqual(self.parts(Asked(ring, ("a", "b")), Asked(other, ("a", "b"))), ("b", "a", "b"))


class KeepingTest(AskedCase):
    def test_nothing_is_changed(self):
        one = Asked(net_of("u v", "a u u, b u v, c v u"), ("b",))
        two = Asked(net_of("u v", "a v v, b u v, c v u"), ("b",))
        before = [rows_of(one.net), rows_of(two.net)]
        parting_round(one, two)
        parting_stretch(one, two)
        self.assertEqual([rows_of(one.net), rows_of(two.net)], before)
