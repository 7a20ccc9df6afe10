"""Points 2 and 21 to 26: the verdict and all its evidence, looked through step by step."""

import random
import unittest

from alsoshown.asked import Asked, avoiding, never, paper, showing
from alsoshown.patterns import any_of, none_of, optional, repeated
from checks import AskedCase
from making import net_of, random_net, rounds_taking
from trees import Reader, built, random_tree, turned, walk


class EvidenceCase(AskedCase):
    def is_standing(self, standing, asked, reader):
        """Check the kind of a standing."""
        self.assertIsInstance(standing, tuple)
        post, atoms = standing
        self.assertIn(post, asked.part()[0])
        self.assertIsInstance(atoms, tuple)
        self.assertEqual(list(atoms), sorted(set(atoms)))
        self.assertTrue(set(atoms) <= set(range(len(reader.atoms))))

    def moves(self, asked, reader, standing):
        """The inner lanes that start at a standing, where they lead, and whether they complete the pattern."""
        post, atoms = standing
        net, (_, lanes) = asked.net, asked.part()
        for lane in net.out_of(post):
            if lane in lanes:
                there, completed = reader.step(atoms, lane)
                yield lane, (net.end_of(lane), there), completed

    def check_paper(self, asked, reader, found):
        self.assertIsInstance(found, tuple)
        numbers, lanes = found
        self.assertIsInstance(numbers, dict)
        self.assertIsInstance(lanes, dict)
        if reader.empty:
            self.assertEqual(found, ({}, {}))
            return
        for post in asked.part()[0]:
            self.assertIn((post, ()), numbers)
        self.assertEqual(set(lanes), set(numbers.values()))
        self.assertLessEqual(set(lanes.values()), set(asked.wanted))
        for standing, number in numbers.items():
            self.is_standing(standing, asked, reader)
            self.assertIs(type(number), int)
            for lane, there, completed in self.moves(asked, reader, standing):
                if not completed:
                    self.assertIn(there, numbers)
                    self.assertGreaterEqual(numbers[there], number)
                    if lane == lanes[number]:
                        self.assertNotEqual(numbers[there], number)

    def check_never(self, asked, reader, found):
        self.assertIsInstance(found, list)
        self.assertFalse(reader.empty)
        self.assertEqual(found, sorted(set(found)))
        for post in asked.part()[0]:
            self.assertIn((post, ()), found)
        for standing in found:
            self.is_standing(standing, asked, reader)
            for _, there, completed in self.moves(asked, reader, standing):
                self.assertFalse(completed)
                self.assertIn(there, found)

    def check_all(self, asked, tree, pattern=None):
        """Check the verdict and all evidence of one pattern, and return the verdict."""
        pattern = built(tree) if pattern is None else pattern
        reader, verdict = Reader(tree), asked(pattern)
        shown, avoided = showing(asked, pattern), avoiding(asked, pattern)
        sure, none = paper(asked, pattern), never(asked, pattern)
        self.assertEqual((avoided is None, shown is None),
                         {"sure": (True, False), "never": (False, True), "open": (False, False)}[verdict])
        self.assertEqual((sure is None, none is None), (verdict != "sure", verdict != "never"))
        if shown is not None:
            self.is_round_of(shown, asked)
            self.assertTrue(reader.shown_by(shown.lanes))
        if avoided is not None:
            self.is_round_of(avoided, asked)
            self.assertFalse(reader.shown_by(avoided.lanes))
        if sure is not None:
            self.check_paper(asked, reader, sure)
        if none is not None:
            self.check_never(asked, reader, none)
        return verdict


def some_asked(source, posts, lanes):
    """A net with wanted lanes that some round takes; not all of the net need be in one part."""
    while True:
        net = random_net(source, posts, lanes, source.random() < 0.7)
        asked = Asked(net, source.sample(net.lanes, source.randint(1, min(4, lanes))))
        if asked:
            return asked


class PaperTest(EvidenceCase):
    def test_by_hand(self):
        asked = Asked(net_of("u v w", "a u u, b u v, c v u, d v w"), ("b",))
        numbers, lanes = paper(asked, ("b",))
        self.assertEqual(set(numbers), {("u", ()), ("v", ())})
        self.assertEqual(set(lanes.values()), {"b"})
        self.assertGreater(numbers["u", ()], numbers["v", ()])
        self.check_paper(asked, Reader(walk("b")), (numbers, lanes))

    def test_patterns_with_the_empty_word(self):
        asked = Asked(net_of("u", "a u u"), ("a",))
        for pattern in (optional(any_of("x")), repeated(none_of()), optional(any_of("a")) * 3):
            self.assertEqual(paper(asked, pattern), ({}, {}))
            self.assertIsNone(never(asked, pattern))

    def test_no_paper(self):
        asked = Asked(net_of("u", "a u u, b u u"), ("a",))
        for pattern in (("b",), ("x",), any_of("b") + any_of("b"), none_of("a", "b")):
            self.assertIsNone(paper(asked, pattern))
        self.assertIsNotNone(paper(asked, none_of("b")))

    def test_what_is_returned_is_new(self):
        asked = Asked(net_of("u v", "b u v, c v u"), ("b",))
        numbers, lanes = paper(asked, ("b",))
        kept = (dict(numbers), dict(lanes))
        numbers.clear()
        lanes.clear()
        self.assertEqual(paper(asked, ("b",)), kept)


class NeverTest(EvidenceCase):
    def test_by_hand(self):
        asked = Asked(net_of("v u w", "b u v, c v u, d v w"), ("b",))
        self.assertEqual(never(asked, ("b", "b")), [("u", ()), ("v", ()), ("v", (0,))])
        self.assertEqual(never(asked, ("d",)), [("u", ()), ("v", ())])
        self.assertEqual(never(asked, ("b", "c", "c")), [("u", ()), ("u", (1,)), ("v", ()), ("v", (0,))])
        self.assertEqual(never(asked, any_of("b", "x") + any_of("c") + any_of("x")),
                         [("u", ()), ("u", (1,)), ("v", ()), ("v", (0,))])

    def test_the_order_of_tuples(self):
        asked = Asked(net_of("p2 p10", "a p2 p10, b p10 p2"), ("a",))
        found = never(asked, none_of() * 3 + any_of("x"))
        self.assertEqual(found, sorted(found))
        self.assertEqual([post for post, _ in found], ["p10"] * 4 + ["p2"] * 4)
        self.assertEqual([atoms for _, atoms in found[:4]], [(), (0,), (0, 1), (0, 1, 2)])

    def test_some_round_shows_it(self):
        asked = Asked(net_of("u", "a u u, b u u"), ("a",))
        for pattern in (("b",), ("a",), ("a", "b", "b"), optional(any_of("x"))):
            self.assertIsNone(never(asked, pattern))

    def test_what_is_returned_is_new(self):
        asked = Asked(net_of("u", "a u u"), ("a",))
        never(asked, ("x",)).append("y")
        self.assertEqual(never(asked, ("x",)), [("u", ())])


class RandomTest(EvidenceCase):
    def test_random_patterns(self):
        source = random.Random(25)
        counts = {"sure": 0, "open": 0, "never": 0}
        for _ in range(1200):
            asked = some_asked(source, source.randint(1, 4), source.randint(2, 7))
            names = [*asked.net.lanes, "x"]
            counts[self.check_all(asked, random_tree(source, names, source.randint(1, 5)))] += 1
        self.assertGreater(min(counts.values()), 40)

    def test_random_walks(self):
        source = random.Random(26)
        counts = {"sure": 0, "open": 0, "never": 0}
        for number in range(400):
            asked = some_asked(source, source.randint(1, 4), source.randint(2, 6))
            ring = asked.round()
            start, many = source.randrange(len(ring)), source.randint(1, 6)
            lanes = [ring[start + k] for k in range(many)]
            if source.random() < 0.4:
                lanes[source.randrange(many)] = source.choice(asked.net.lanes)
            given = tuple(lanes) if number % 2 else lanes
            counts[self.check_all(asked, walk(lanes), given)] += 1
        self.assertGreater(min(counts.values()), 40)

    def test_rounds_of_the_test(self):
        source = random.Random(27)
        for _ in range(100):
            asked = some_asked(source, source.randint(1, 3), source.randint(2, 4))
            tree = random_tree(source, [*asked.net.lanes, "x"], source.randint(1, 4))
            verdict = self.check_all(asked, tree)
            for lanes in rounds_taking(asked.net, asked.wanted, 6):
                if verdict != "open":
                    self.assertEqual(Reader(tree).shown_by(lanes), verdict == "sure")

    def test_the_net_turned_about(self):
        source = random.Random(28)
        for _ in range(150):
            asked = some_asked(source, source.randint(1, 4), source.randint(2, 6))
            tree = random_tree(source, asked.net.lanes, source.randint(1, 5))
            back = Asked(-asked.net, asked.wanted)
            self.assertEqual(self.check_all(back, turned(tree), -built(tree)), asked(built(tree)))
            ring = showing(asked, built(tree))
            if ring is not None:
                self.assertTrue(Reader(turned(tree)).shown_by((-ring).lanes))

    def test_fewer_lanes_and_more_wanted_lanes(self):
        source = random.Random(29)
        seen = 0
        for _ in range(250):
            asked = some_asked(source, source.randint(1, 4), source.randint(3, 7))
            net, pattern = asked.net, built(random_tree(source, asked.net.lanes, source.randint(1, 4)))
            verdict = asked(pattern)
            lane = source.choice(net.lanes)
            others = [Asked(net, asked.wanted + (lane,))]
            if lane not in asked.wanted:
                others.append(Asked(net - (lane,), asked.wanted))
            for other in others:
                # The rounds of the other one are rounds of asked, too.
                if other and verdict != "open":
                    seen += 1
                    self.assertEqual(other(pattern), verdict)
                elif other and other(pattern) == "open":
                    self.assertEqual(verdict, "open")
        self.assertGreater(seen, 100)

    def test_the_order_of_the_net_has_no_meaning_for_the_verdict(self):
        source = random.Random(30)
        for _ in range(60):
            asked = some_asked(source, 3, 6)
            net, pattern = asked.net, built(random_tree(source, asked.net.lanes, 4))
            other = net_of(" ".join(net.posts[::-1]), ", ".join(
                f"{lane} {net.start_of(lane)} {net.end_of(lane)}" for lane in net.lanes[::-1]))
            self.assertEqual(Asked(other, asked.wanted)(pattern), asked(pattern))


class LimitsTest(EvidenceCase):
    def test_nets_and_patterns_near_the_limits(self):
        source = random.Random(31)
        counts = {"sure": 0, "open": 0, "never": 0}
        for _ in range(40):
            net = random_net(source, 10, 16)
            asked = Asked(net, source.sample(net.lanes, source.randint(1, 16)))
            counts[self.check_all(asked, random_tree(source, net.lanes, 8))] += 1
        self.assertGreater(counts["open"], 0)

    def test_very_many_standings(self):
        net = random_net(random.Random(32), 2, 16)
        asked = Asked(net, net.lanes)
        tree = ("any", net.lanes[:8])
        for _ in range(8):
            tree = ("then", tree, ("none", ()))
        self.assertEqual(self.check_all(asked, ("then", tree, ("any", ("x",)))), "never")
        self.assertEqual(self.check_all(asked, tree), "sure")

    def test_what_the_program_returned_is_passed_back(self):
        net = random_net(random.Random(33), 10, 16)
        asked = Asked(net, net.lanes)
        ring = asked.round()
        for lanes in (ring.lanes, (ring * 2).lanes, ring.lanes[::-1], ring.lanes + ("x",)):
            self.check_all(asked, walk(lanes), lanes)
        single = Asked(net_of("u", "a u u"), ("a",))
        self.assertEqual(single(("a",) * 1600), "sure")


if __name__ == "__main__":
    unittest.main()
