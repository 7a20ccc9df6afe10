"""Points 2, 41 and 42: ring texts, their windows, and the nets of windows."""

import itertools
import random
import unittest

from alsoshown.asked import Asked
from alsoshown.errors import BadNumber, BadWord, EmptyWalk
from alsoshown.rounds import Round, fits
from alsoshown.windows import contained, known_by, ring_text, text_round, window_net, windows
from making import closed_walks, rows_of

NO_TEXTS = ["", "a" * 41, "A", "aB", "a b", " a", "a\n", "a1", "0", "a-", "\u00e4", "a\u0430", "{", "`", None, 0, 7,
            True,
            False, 1.5, b"a", ["a"], ("a",), {"a": 1}, object()]
NO_LENGTHS = [1, 9, 0, -1, -2, 10 ** 59, -10 ** 59, True, False, None, "3", "", 2.0, 3.5, (3,), [3], b"3"]


def plain_windows(text, k):
    """The word of k letters at each place, letter by letter."""
    return ["".join(text[(place + step) % len(text)] for step in range(k)) for place in range(len(text))]


def random_text(source, letters, most):
    return "".join(source.choice(letters) for _ in range(source.randint(1, most)))


class WindowsTest(unittest.TestCase):
    def test_by_hand(self):
        for text, k, expected in (("abcab", 3, ["aba", "abc", "bab", "bca", "cab"]), ("a", 2, ["aa"]),
                                  ("a", 8, ["a" * 8]),
                                  ("ab", 2, ["ab", "ba"]), ("ab", 5, ["ababa", "babab"]), ("abab", 3, ["aba", "bab"]),
                                  ("zya", 2, ["az", "ya", "zy"]), ("aab", 2, ["aa", "ab", "ba"]),
                                  ("abc", 4, ["abca", "bcab", "cabc"]),
                                  ("aaab", 8, ["aaabaaab", "aabaaaba", "abaaabaa", "baaabaaa"])):
            self.assertEqual(windows(text, k), expected)

    def test_all_short_texts(self):
        for size in range(1, 7):
            for letters in itertools.product("ab", repeat=size):
                text = "".join(letters)
                for k in range(2, 9):
                    expected = plain_windows(text, k)
                    self.assertEqual(windows(text, k), sorted(set(expected)))
                    self.assertEqual(text_round(text, k).lanes, tuple(expected))

    def test_the_text_begun_elsewhere_and_repeated(self):
        source = random.Random(410)
        for _ in range(60):
            text, k = random_text(source, "abc", 20), source.randint(2, 8)
            begun = source.randrange(len(text))
            self.assertEqual(windows(text[begun:] + text[:begun], k), windows(text, k))
            self.assertEqual(windows(text * 2, k), windows(text, k))

    def test_long_texts(self):
        text = "abcdefghijklmnopqrstuvwxyzzyxwvutsrqponm"
        self.assertEqual(len(text), 40)
        for k in (2, 8):
            self.assertEqual(windows(text, k), sorted(set(plain_windows(text, k))))
        self.assertEqual(windows("a" * 40, 8), ["a" * 8])

    def test_what_is_no_text(self):
        for wrong in NO_TEXTS:
            for function in (windows, text_round):
                for k in (2, 9, True, None):
                    with self.assertRaises(BadWord, msg=repr(wrong)) as caught:
                        function(wrong, k)
                    self.assertIs(caught.exception.word, wrong)

    def test_what_is_no_length(self):
        for wrong in NO_LENGTHS:
            for function in (windows, text_round):
                with self.assertRaises(BadNumber, msg=repr(wrong)) as caught:
                    function("ab", wrong)
                self.assertIs(caught.exception.value, wrong)

    def test_what_is_returned_is_new(self):
        windows("ab", 2).clear()
        self.assertEqual(windows("ab", 2), ["ab", "ba"])


class RoundTest(unittest.TestCase):
    def test_by_hand(self):
        self.assertEqual(text_round("abcab", 3).lanes, ("abc", "bca", "cab", "aba", "bab"))
        self.assertEqual(text_round("a", 4).lanes, ("aaaa",))
        self.assertEqual(text_round("aba", 2).lanes, ("ab", "ba", "aa"))
        self.assertEqual(ring_text(Round(("abc", "bca", "cab"))), "abc")
        self.assertEqual(ring_text(Round(["xy", "a", "b2"])), "xab")

    def test_there_and_back(self):
        source = random.Random(411)
        for _ in range(80):
            text, k = random_text(source, "abz", 40), source.randint(2, 8)
            ring = text_round(text, k)
            self.assertEqual(ring_text(ring), text)
            self.assertEqual(ring_text(ring * 3), text * 3)
            self.assertTrue(fits(window_net(windows(text, k)), ring))
            self.assertEqual(ring.taken(), tuple(windows(text, k)))

    def test_rounds_of_the_net_are_texts(self):
        net = window_net(("aab", "aba", "baa", "abb", "bba", "bab"))
        many = 0
        for lanes in closed_walks(net, 9):
            text = ring_text(Round(lanes))
            self.assertEqual(text_round(text, 3).lanes, lanes)
            many += set(lanes) == set(net.lanes)
        self.assertGreater(many, 0)


class NetTest(unittest.TestCase):
    def test_by_hand(self):
        self.assertEqual(rows_of(window_net(("abc", "bca", "cab"))), (
            ("ab", "bc", "ca"), [("abc", "ab", "bc"), ("bca", "bc", "ca"), ("cab", "ca", "ab")]))
        self.assertEqual(rows_of(window_net(["zz", "za", "zz", "bz", "za"])), (
            ("a", "b", "z"), [("bz", "b", "z"), ("za", "z", "a"), ("zz", "z", "z")]))
        self.assertEqual(rows_of(window_net(["abcdefgh"])), (("abcdefg", "bcdefgh"),
                                                             [("abcdefgh", "abcdefg", "bcdefgh")]))
        self.assertEqual(rows_of(window_net(("aa",))), (("a",), [("aa", "a", "a")]))

    def test_the_order_of_the_words_has_no_meaning(self):
        words = ["abb", "bba", "aba", "bab"]
        expected = rows_of(window_net(sorted(words)))
        for row in itertools.permutations(words):
            self.assertEqual(rows_of(window_net(row)), expected)
            self.assertEqual(rows_of(window_net(list(row) + words)), expected)

    def test_no_words(self):
        for words in ((), []):
            with self.assertRaises(EmptyWalk):
                window_net(words)
            with self.assertRaises(EmptyWalk):
                contained(words, "A")

    def test_the_first_wrong_word(self):
        for words, wrong in ((("a", "A"), "a"), (("ab", "abc", "A"), "abc"), (["abc", "ab"], "ab"),
                             (("ab", "a", ""), "a"),
                             (["abcdefghi"], "abcdefghi"), (("abcdefgh", "abcdefghi"), "abcdefghi"),
                             (("ab", "ba", "aB"), "aB"),
                             (("ab", "a1"), "a1"), (("ab", 5, None), 5), ([None, "ab"], None), (("ab", "b\n"), "b\n"),
                             (("ab", ("a", "b")), ("a", "b")), (["ab", ["ab"]], ["ab"]), ((True, "ab"), True),
                             (("ab", b"ab"), b"ab")):
            for operation in (lambda: window_net(words), lambda: contained(words, "ab"), lambda: contained(words, "A")):
                with self.assertRaises(BadWord) as caught:
                    operation()
                self.assertEqual(caught.exception.word, wrong)

    def test_all_lengths(self):
        for k in range(2, 9):
            net = window_net([letter * k for letter in "zya"])
            self.assertEqual((net.posts, net.lanes), (tuple(letter * (k - 1) for letter in "ayz"),
                                                      tuple(x * k for x in "ayz")))

    def test_the_rounds_that_take_all_lanes_are_the_texts_with_these_windows(self):
        for words in (("aa", "ab", "ba"), ("aab", "aba", "baa"), ("ab", "bc", "ca", "ac"), ("ab", "bb"),
                      ("abab", "baba")):
            net, k = window_net(words), len(words[0])
            texts = {ring_text(Round(lanes)) for lanes in closed_walks(net, 6) if set(lanes) == set(net.lanes)}
            every = ("".join(row) for size in range(1, 7) for row in itertools.product("abc", repeat=size))
            self.assertEqual(texts, {text for text in every if windows(text, k) == sorted(words)})

    def test_words_that_are_passed_are_not_changed(self):
        words = ["ba", "ab", "ba"]
        net = window_net(words)
        words.append("aa")
        self.assertEqual((words, net.lanes), (["ba", "ab", "ba", "aa"], ("ab", "ba")))

    def test_fourteen_words(self):
        text = "abcdefghijklmn"
        for k in (2, 5, 8):
            net = window_net(windows(text, k))
            self.assertEqual((len(net.posts), len(net)), (14, 14))
            self.assertTrue(Asked(net, net.lanes))
        words = [f"{one}{two}" for one, two in zip("abcdefghijklmn", "opqrstuvwxyzab")]
        self.assertEqual(len(window_net(words).posts), 26)
        self.assertIsNone(known_by("ab" + "a" * 38))


if __name__ == "__main__":
    unittest.main()
