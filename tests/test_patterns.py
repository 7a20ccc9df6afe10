"""Points 2 and 12 to 14: patterns and their words."""

import random
import unittest

from alsoshown.errors import BadName, BadNumber, EmptyWalk
from alsoshown.patterns import Pattern, any_of, none_of, optional, repeated, walk_of
from trees import built, names_in, random_tree, turned, words, words_of

NO_NUMBERS = [0, -1, -10 ** 59, None, True, False, "1", "", 1.0, (1,), [1], b"1", {}]


class Case(unittest.TestCase):
    def has(self, pattern, *texts):
        """Check that the words of at most three lanes out of a, b, c are just these."""
        self.assertEqual(words_of(pattern, "abc", 3), {tuple(text) for text in texts})


class AtomsTest(Case):
    def test_any_of(self):
        self.has(any_of("a"), "a")
        self.has(any_of("c", "a"), "a", "c")
        self.has(any_of("a", "a"), "a")
        self.has(any_of("z"))

    def test_none_of(self):
        self.has(none_of("a"), "b", "c")
        self.has(none_of("a", "b", "c"))
        self.has(none_of(), "a", "b", "c")
        self.assertIs(("z9",) in none_of("a", "b", "c"), True)

    def test_walk_of(self):
        self.has(walk_of("a"), "a")
        self.has(walk_of("a", "b"), "ab")
        self.has(walk_of("b", "b", "a"), "bba")
        self.assertIs(tuple("abca") in walk_of(*"abca"), True)

    def test_no_names(self):
        for function in (any_of, walk_of):
            with self.assertRaises(EmptyWalk):
                function()
        self.assertIs(("a",) in none_of(), True)

    def test_the_first_one_that_is_no_name(self):
        strange = ["", "abcdefghi", "A", "0a", "aB", "a_b", "a ", "\u00e4", "a\u0661", None, True, 0, 1.5, b"a", ("a",),
                   ["a"], {"a": 1}, any_of("a")]
        for function in (any_of, none_of, walk_of):
            for wrong in strange:
                for names in ((wrong,), ("a", wrong, "B"), ("a", "b", wrong)):
                    with self.assertRaises(BadName) as caught:
                        function(*names)
                    self.assertIs(caught.exception.name, wrong)

    def test_the_longest_names(self):
        for function in (any_of, none_of, walk_of):
            self.assertEqual(function("abcdefgh", "a1234567").names, ("a1234567", "abcdefgh"))


class OperatorsTest(Case):
    def setUp(self):
        self.a, self.b, self.ab = any_of("a"), any_of("b"), any_of("a", "b")

    def test_one_after_another(self):
        self.has(self.a + self.ab, "aa", "ab")
        self.has(self.a + self.b + self.a, "aba")
        self.has(self.a + optional(self.b), "a", "ab")
        self.has(optional(self.a) + optional(self.b), "", "a", "b", "ab")

    def test_either(self):
        self.has(self.a | self.b, "a", "b")
        self.has(self.a | walk_of("b", "c"), "a", "bc")
        self.has(self.a | optional(self.b), "", "a", "b")

    def test_several_times(self):
        self.has(self.ab * 1, "a", "b")
        self.has(self.ab * 2, "aa", "ab", "ba", "bb")
        self.has(walk_of("a", "b") * 1, "ab")
        self.has(optional(self.a) * 3, "", "a", "aa", "aaa")
        self.assertIs(("a",) * 8 in self.a * 8, True)
        self.assertIs(("a",) * 7 in self.a * 8, False)

    def test_numbers_that_are_none(self):
        for wrong in NO_NUMBERS + [self.a]:
            with self.assertRaises(BadNumber) as caught:
                self.a * wrong
            self.assertIs(caught.exception.value, wrong)

    def test_repeated(self):
        self.has(repeated(self.a), "", "a", "aa", "aaa")
        self.has(repeated(walk_of("a", "b")), "", "ab")
        self.has(repeated(self.a | walk_of("b", "c")), "", "a", "aa", "aaa", "bc", "abc", "bca")
        self.has(repeated(repeated(self.a)), "", "a", "aa", "aaa")
        self.has(repeated(optional(self.a)) + self.b, "b", "ab", "aab")

    def test_optional(self):
        self.has(optional(self.a), "", "a")
        self.has(optional(optional(walk_of("a", "b"))), "", "ab")

    def test_the_opposite_order(self):
        self.has(-walk_of("a", "b", "c"), "cba")
        self.has(-(self.a + (self.b | walk_of("b", "c"))), "ba", "cba")
        self.has(-(repeated(self.a) + none_of("a")), "b", "c", "ba", "ca", "baa", "caa")
        self.has(-optional(walk_of("a", "b")), "", "ba")
        self.has(-repeated(walk_of("a", "b")), "", "ba")
        self.has(-self.ab, "a", "b")

    def test_operators_change_nothing_and_make_patterns(self):
        made = [self.a + self.b, self.a | self.b, self.a * 1, -self.a, repeated(self.a), optional(self.a)]
        for pattern in made:
            self.assertIsInstance(pattern, Pattern)
            self.assertIsNot(pattern, self.a)
        same = self.a
        same += self.b
        same |= self.a
        same *= 2
        self.has(self.a, "a")
        self.assertEqual((self.a.text, self.a.names), ("a", ("a",)))
        self.assertEqual(same.text, "(a b | a) (a b | a)")

    def test_a_list_that_is_changed_afterwards_has_no_effect(self):
        names = ["a", "b"]
        made = [any_of(*names), none_of(*names), walk_of(*names)]
        names[0] = "c"
        self.assertEqual([pattern.text for pattern in made], ["[a b]", "[^a b]", "a b"])


class WordsTest(Case):
    def test_random_patterns(self):
        source = random.Random(12)
        for number in range(250):
            tree = random_tree(source, "abc", source.randint(1, 6))
            pattern, expected = built(tree), words(tree, "abcd", 4)
            with self.subTest(pattern.text):
                self.assertEqual(words_of(pattern), expected)
                self.assertIs(bool(pattern), () not in expected)
                self.assertEqual(pattern.names, tuple(sorted(names_in(tree))))

    def test_random_patterns_in_the_opposite_order(self):
        source = random.Random(13)
        for number in range(100):
            tree = random_tree(source, "abc", source.randint(1, 6))
            pattern = -built(tree)
            with self.subTest(pattern.text):
                self.assertEqual(words_of(pattern), {word[::-1] for word in words(tree, "abcd", 4)})
                self.assertEqual(pattern.text, built(turned(tree)).text)

    def test_random_patterns_several_times(self):
        source = random.Random(14)
        for number in range(60):
            tree, times = random_tree(source, "abc", source.randint(1, 3)), source.randint(1, 4)
            expected = tree
            for _ in range(times - 1):
                expected = ("then", expected, tree)
            self.assertEqual(words_of(built(tree) * times), words(expected, "abcd", 4))

    def test_lists_and_tuples(self):
        pattern = walk_of("a", "b")
        for word in (("a", "b"), ["a", "b"]):
            self.assertIs(word in pattern, True)
        for word in ((), [], ("a",), ["b", "a"], ("a", "b", "a")):
            self.assertIs(word in pattern, False)
        self.assertIs([] in optional(pattern), True)

    def test_other_things_are_no_words(self):
        everything = repeated(none_of())
        for strange in (None, 0, True, 1.5, "", "a", "ab", b"a", {}, {"a": 1}, {"a"}, object(), everything, ("A",),
                        ("a", ""), ("a", 1), ["a", None], (("a",),), [["a"]], ("abcdefghi",), ("a", "\u00e4")):
            self.assertIs(strange in everything, False)

    def test_whether_the_empty_word_is_none(self):
        for pattern in (any_of("a"), none_of(), walk_of("a", "b"), any_of("a") + optional(any_of("b")),
                        any_of("a") | none_of("a"), optional(any_of("a")) + any_of("b")):
            self.assertIs(bool(pattern), True)
        for pattern in (optional(any_of("a")), repeated(none_of()), optional(any_of("a")) * 3,
                        any_of("a") | repeated(any_of("b")), repeated(any_of("a")) + optional(any_of("b"))):
            self.assertIs(bool(pattern), False)

    def test_names(self):
        self.assertEqual((none_of("c", "b2", "b10") + walk_of("a", "c")).names, ("a", "b10", "b2", "c"))
        self.assertEqual((none_of().names, any_of("b", "a", "b").names), ((), ("a", "b")))
        self.assertEqual((repeated(any_of("b")) * 3 | optional(none_of("a"))).names, ("a", "b"))

    def test_long_walks(self):
        lanes = ("a", "b", "c") * 400
        self.assertIs(lanes in walk_of(*lanes), True)
        self.assertIs(lanes[:-1] in walk_of(*lanes), False)
        self.assertIs(lanes in repeated(walk_of("a", "b", "c")), True)


if __name__ == "__main__":
    unittest.main()
