"""Points 15 and 16: the texts of patterns, and reading them."""

import itertools
import random
import re
import unittest

from alsoshown.errors import BadText
from alsoshown.patterns import Pattern, any_of, none_of, optional, repeated, walk_of
from trees import built, random_tree, text, words_of

NAME = "[a-z][a-z0-9]{0,7}"
ATOM = re.compile(rf"\[\^?{NAME}(?: {NAME})*\]|\.|{NAME}")
GROUP = re.compile(r"\(@(?: @)*(?: \| @(?: @)*\)|\)[*?])")
SIGNS = "a" * 6 + "b0 9" + " " * 8 + "().*?|[]^" * 3 + "A-~"


def is_written(sought):
    """Whether this is a written pattern: every atom and then every group in it is exchanged for a single sign."""
    if "@" in sought:
        return False
    left = ATOM.sub("@", sought)
    while GROUP.search(left):
        left = GROUP.sub("@", left)
    return re.fullmatch("@(?: @)*", left) is not None


def is_begun(sought):
    """Whether some written pattern begins in this way: the ways in which it could go on are tried."""
    groups = max(0, sought.count("(") - sought.count(")"))
    for near in ("", "a", "]", "a]", " a", "*"):
        for ends in itertools.product((")", ")*"), repeat=groups):
            if is_written(sought + near + "".join(ends)):
                return True
    return False


def bad_place(sought):
    """The place of BadText as point 16 says it."""
    for place in range(len(sought)):
        if not is_begun(sought[:place + 1]):
            return place
    return len(sought)


def some_texts(seed, many, atoms):
    source = random.Random(seed)
    for _ in range(many):
        yield text(random_tree(source, ["a", "b", "a0", "abcdefgh"], source.randint(1, atoms))), source


class TextTest(unittest.TestCase):
    def test_the_example(self):
        pattern = repeated(none_of("a")) + (any_of("b", "a") | walk_of("c", "d"))
        self.assertEqual(pattern.text, "([^a])* ([a b] | c d)")

    def test_atoms(self):
        for pattern, expected in ((any_of("a"), "a"), (any_of("a", "a"), "a"), (any_of("b", "a", "b"), "[a b]"),
                                  (none_of("a"), "[^a]"), (none_of("c", "a", "b", "c"), "[^a b c]"), (none_of(), "."),
                                  (any_of("b10", "b2", "b"), "[b b10 b2]")):
            self.assertEqual(pattern.text, expected)

    def test_operators(self):
        a, b, c = any_of("a"), any_of("b"), any_of("c")
        for pattern, expected in (
                (a + b, "a b"), ((a + b) + c, "a b c"), (a + (b + c), "a b c"), (a | b, "(a | b)"),
                ((a | b) | c, "((a | b) | c)"), (a | (b | c), "(a | (b | c))"), (a + b | c, "(a b | c)"),
                (repeated(a), "(a)*"), (repeated(a + b), "(a b)*"), (repeated(a | b), "((a | b))*"),
                (optional(a), "(a)?"), (optional(repeated(a)), "((a)*)?"), (a * 1, "a"), (a * 3, "a a a"),
                ((a | b) * 2, "(a | b) (a | b)"), (a + a, "a a"), (walk_of("c", "a"), "c a")):
            self.assertEqual(pattern.text, expected)

    def test_the_opposite_order(self):
        a, b, c = any_of("a", "b"), none_of("a"), none_of()
        for pattern, expected in (
                (a, "[a b]"), (b, "[^a]"), (c, "."), (a + b + c, ". [^a] [a b]"), (a | b + c, "([a b] | . [^a])"),
                (repeated(a + b), "([^a] [a b])*"), (optional(a + b), "([^a] [a b])?"),
                ((a + b) * 2, "[^a] [a b] [^a] [a b]")):
            self.assertEqual((-pattern).text, expected)
            self.assertEqual((-(-pattern)).text, pattern.text)

    def test_random_patterns(self):
        source = random.Random(15)
        for _ in range(300):
            tree = random_tree(source, ["a", "b", "a0", "abcdefgh"], source.randint(1, 8))
            self.assertEqual(built(tree).text, text(tree))


class ReadTest(unittest.TestCase):
    def test_texts_are_read_back(self):
        for written, _ in some_texts(16, 300, 8):
            self.assertTrue(is_written(written))
            self.assertEqual(Pattern.read(written).text, written)

    def test_the_same_words(self):
        source = random.Random(17)
        for _ in range(60):
            pattern = built(random_tree(source, "abc", source.randint(1, 5)))
            again = Pattern.read(pattern.text)
            self.assertIsInstance(again, Pattern)
            self.assertEqual(words_of(again, "abcd", 4), words_of(pattern, "abcd", 4))
            self.assertEqual((again.names, bool(again)), (pattern.names, bool(pattern)))

    def test_names_in_brackets(self):
        for written, expected in (("[b a]", "[a b]"), ("[a]", "a"), ("[a a]", "a"), ("[b a b a]", "[a b]"),
                                  ("[^b a]", "[^a b]"), ("[^a a]", "[^a]"), ("[^a]", "[^a]"), (".", "."),
                                  ("[abcdefgh a1234567]", "[a1234567 abcdefgh]"), ("([b a])* [c]", "([a b])* c")):
            self.assertEqual(Pattern.read(written).text, expected)

    def test_written_patterns_of_every_kind(self):
        for written in ("a", "abcdefgh", "a b", "(a | b)", "(a)*", "(a)?", "((a | b))*", "(a b c | (. d)?)", "((a)*)?",
                        "(((a | b) | c) | d)", "(a | (b | (c | d)))", "(a)* (b)*", "((a)* | (b)?)"):
            self.assertEqual(Pattern.read(written).text, written)

    def test_deep_and_long_ones(self):
        for depth in (10, 50, 66, 400):
            written = "(" * depth + "a" + ")*" * depth
            self.assertEqual(Pattern.read(written).text, written)
            self.assertIs(("a", "a") in Pattern.read(written), True)
            either = "(" * depth + "a" + " | b)" * depth
            self.assertEqual(Pattern.read(either).text, either)
            right = "(a | " * depth + "b" + ")" * depth
            self.assertEqual(Pattern.read(right).text, right)
            self.assertEqual(Pattern.read((-Pattern.read(right)).text).text, right)
        self.assertEqual(Pattern.read(" ".join(["a"] * 100)).names, ("a",))


class BadTextTest(unittest.TestCase):
    def refused(self, written, place):
        with self.assertRaises(BadText, msg=repr(written)) as caught:
            Pattern.read(written)
        self.assertEqual(caught.exception.place, place, repr(written))

    def test_texts_by_hand(self):
        for written, place in (
                ("", 0), (" ", 0), (" a", 0), ("a ", 2), ("a  b", 2), ("A", 0), ("0", 0), ("aB", 1), ("a_", 1),
                ("abcdefghi", 8), ("abcdefghi b", 8), ("[abcdefghi]", 9), ("a abcdefgh1", 10), ("9a", 0),
                ("[", 1), ("[]", 1), ("[^", 2), ("[^]", 2), ("[ a]", 1), ("[a ]", 3), ("[a  b]", 3), ("[a", 2),
                ("[a b", 4), ("[a^]", 2), ("[^^a]", 2), ("[a.]", 2), ("[.]", 1), ("[a]b", 3), ("[a,b]", 2),
                ("(", 1), ("()", 1), ("()*", 1), ("(a", 2), ("(a)", 3), ("(a) b", 3), ("(a)+", 3), ("(a)**", 4),
                ("( a)*", 1), ("(a )*", 3), ("(a|b)", 2), ("(a |b)", 4), ("(a | b", 6), ("(a | b)*", 7),
                ("(a | b)?", 7), ("(a | b | c)", 7), ("(a | )", 5), ("( | a)", 1), ("(a | b ", 7), ("(a |", 4),
                ("(a | ", 5), ("a | b", 2), ("a |", 2), ("|", 0), ("a)", 1), ("(a)*)", 4), ("(a | b))", 7),
                ("a*", 1), ("a?", 1), (".*", 1), (".a", 1), ("a.", 1), ("..", 1), ("a(b)*", 1), ("*", 0), ("?", 0),
                (")", 0), ("]", 0), ("^", 0), ("a]", 1), ("(a]", 2), ("[a)", 2), ("(a)* | b", 5), ("((a)* b", 7),
                ("~", 0), ("a~", 1), ("(a | b) c | d", 10), ("((a | b)", 8), ("((a | b) | c", 12)):
            self.assertFalse(is_written(written), written)
            self.assertEqual(bad_place(written), place, written)
            self.refused(written, place)

    def test_deep_ones_that_do_not_end(self):
        for depth in (1, 50, 200, 2000):
            self.refused("(" * depth, depth)
            self.refused("(" * depth + "a" + ")*" * (depth - 1) + ")", 3 * depth)
            self.refused("(" * depth + "a" + ")*" * depth + ")", 3 * depth + 1)
            self.refused("(a | " * depth + "b" + ")" * depth + "*", 6 * depth + 1)

    def check(self, written):
        """Read a text that may be written or not, and compare with the check of this test."""
        if is_written(written):
            self.assertEqual(Pattern.read(Pattern.read(written).text).text, Pattern.read(written).text)
        else:
            self.refused(written, bad_place(written))

    def test_texts_cut_off(self):
        for written, _ in some_texts(18, 25, 5):
            for place in range(len(written)):
                self.check(written[:place])

    def test_a_sign_taken_out(self):
        for written, _ in some_texts(19, 25, 5):
            for place in range(len(written)):
                self.check(written[:place] + written[place + 1:])

    def test_a_sign_put_in_or_exchanged(self):
        for written, source in some_texts(20, 80, 5):
            for _ in range(8):
                place, sign = source.randrange(len(written) + 1), source.choice(SIGNS)
                self.check(written[:place] + sign + written[place:])
                self.check(written[:place] + sign + written[place + 1:])

    def test_random_signs(self):
        source = random.Random(21)
        for _ in range(1500):
            self.check("".join(source.choice(SIGNS) for _ in range(source.randint(0, 9))))

    def test_all_short_texts(self):
        for many in range(5):
            for signs in itertools.product("a ()|*.[]^", repeat=many):
                self.check("".join(signs))


if __name__ == "__main__":
    unittest.main()
