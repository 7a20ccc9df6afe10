"""Points 17 and 18: patterns compared, and tuples of names in the place of patterns."""

import random
import unittest

from alsoshown.errors import BadName, EmptyWalk
from alsoshown.patterns import any_of, none_of, optional, parting, repeated, walk_of, within
from trees import built, random_tree, words


class WithinTest(unittest.TestCase):
    def test_pairs_by_hand(self):
        a, b, every = any_of("a"), any_of("b"), repeated(none_of())
        for less, more in ((a, a | b), (a, none_of("b")), (a, none_of()), (walk_of("a", "b"), every),
                           (a * 3, repeated(a)), (none_of("a", "b"), none_of("a")), (repeated(a + b), repeated(a | b)),
                           (a, optional(a)),
                           (repeated(a) + a, repeated(a)), (any_of("a", "b"), a | b), (a + b, walk_of("a", "b"))):
            self.assertIs(within(less, more), True, (less.text, more.text))
        for less, more in ((a | b, a), (none_of("b"), a), (none_of("a"), any_of("b", "c", "d")), (every, repeated(a)),
                           (repeated(a), a + repeated(a)), (optional(a), a), (none_of(), none_of("z9")),
                           (a + b, b + a), (repeated(a | b), repeated(a + b))):
            self.assertIs(within(less, more), False, (less.text, more.text))

    def test_random_patterns(self):
        source = random.Random(17)
        seen = {True: 0, False: 0}
        for _ in range(400):
            p = random_tree(source, "ab", source.randint(1, 3))
            q = random_tree(source, "ab", source.randint(1, 3))
            for one, two in ((p, q), (q, p), (p, ("or", q, p)), (p, p)):
                found = within(built(one), built(two))
                seen[found] += 1
                self.assertEqual(found, words(one, "abc", 5) <= words(two, "abc", 5))
        self.assertGreater(min(seen.values()), 100)


class PartingTest(unittest.TestCase):
    def test_the_same_words(self):
        a, b = any_of("a"), any_of("b")
        for p, q in ((a + a, a * 2), (repeated(a | b), repeated(repeated(a) + repeated(b))), (a | b, any_of("a", "b")),
                     (optional(repeated(a)), repeated(a)), (none_of("a") | a, none_of()), (-walk_of("a", "b"), b + a),
                     (a + repeated(b + a), repeated(a + b) + a)):
            self.assertIsNone(parting(p, q))
            self.assertIsNone(parting(q, p))

    def test_a_shortest_word(self):
        a, b = any_of("a"), any_of("b")
        for p, q, expected in ((a, b, [("a",), ("b",)]), (a, a * 2, [("a",)]), (optional(a), a, [()]),
                               (repeated(a), optional(a), [("a", "a")]), (walk_of("a", "b"), walk_of("a", "a"), None),
                               (a * 5 | b, a * 6 | b, [("a",) * 5])):
            for word in (parting(p, q), parting(q, p)):
                self.assertIsInstance(word, tuple)
                self.assertIn(word, expected or [("a", "b"), ("a", "a")])

    def test_names_that_neither_pattern_names(self):
        names = ["x", "x0", "x1", "x2", "a", "b", *[f"x{k}" for k in range(3, 30)]]
        for p, q in ((none_of(*names), any_of(*names)), (none_of(), any_of(*names)),
                     (repeated(any_of(*names)), repeated(none_of()))):
            word = parting(p, q)
            self.assertEqual(len(word), 1)
            self.assertNotEqual(word in p, word in q)
        self.assertIsNone(parting(none_of(*names), none_of(*names[::-1])))
        self.assertIsNone(parting(any_of(*names) | none_of(*names), none_of()))

    def test_random_patterns(self):
        source = random.Random(18)
        seen = {True: 0, False: 0}
        for number in range(600):
            p = random_tree(source, "ab", source.randint(1, 3))
            q = random_tree(source, "ab", source.randint(1, 3))
            if number % 4 == 0:
                p, q = ("or", p, q), ("or", q, p)
            found = parting(built(p), built(q))
            seen[found is None] += 1
            differ = words(p, "abc", 5) ^ words(q, "abc", 5)
            if found is None:
                self.assertEqual(differ, set())
                continue
            self.assertIsInstance(found, tuple)
            self.assertNotEqual(found in built(p), found in built(q))
            self.assertEqual(len(found), min(len(word) for word in differ))
        self.assertGreater(min(seen.values()), 100)

    def test_within_and_parting_agree(self):
        source = random.Random(19)
        for _ in range(150):
            p = built(random_tree(source, "abc", source.randint(1, 6)))
            q = built(random_tree(source, "abc", source.randint(1, 6)))
            self.assertEqual(parting(p, q) is None, within(p, q) and within(q, p))
            self.assertEqual(within(p, q), parting(p | q, q) is None)
            self.assertEqual(within(-p, -q), within(p, q))

    def test_patterns_with_many_atoms(self):
        every = repeated(none_of())
        p, q = every + any_of("a") + none_of() * 4, every + any_of("b") + none_of() * 4
        word = parting(p, q)
        self.assertEqual(len(word), 5)
        self.assertNotEqual(word in p, word in q)
        self.assertIs(within(p, every + any_of("a", "b") + none_of() * 4), True)


class TuplesTest(unittest.TestCase):
    def test_tuples_and_lists_stand_for_walks(self):
        self.assertIs(within(("a", "b"), walk_of("a", "b")), True)
        self.assertIs(within(["a", "b"], none_of() * 2), True)
        self.assertIs(within(none_of() * 2, ("a", "b")), False)
        self.assertIsNone(parting(("a", "b"), ["a", "b"]))
        self.assertEqual(parting(("a",), ("a", "b")), ("a",))

    def test_their_errors(self):
        for function in (within, parting):
            for p, q in (((), ("a",)), (("a",), ()), ((), ("B",)), ([], any_of("a")), (none_of(), [])):
                with self.assertRaises(EmptyWalk):
                    function(p, q)
            for p, q, wrong in ((("A",), ("B",), "A"), (("a",), ("b", 7), 7), (("a", "B"), (), "B"),
                                (any_of("a"), ("a", None, "B"), None)):
                with self.assertRaises(BadName) as caught:
                    function(p, q)
                self.assertEqual(caught.exception.name, wrong)

    def test_nothing_is_changed(self):
        lanes, pattern = ["a", "b"], any_of("a")
        parting(lanes, pattern)
        within(lanes, pattern)
        self.assertEqual((lanes, pattern.text), (["a", "b"], "a"))


if __name__ == "__main__":
    unittest.main()
