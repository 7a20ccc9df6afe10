"""Points 20 and 43: what is known of ring texts by their windows."""

import itertools
import random

from alsoshown.asked import Asked
from alsoshown.errors import BadWord
from alsoshown.rounds import Round
from alsoshown.windows import contained, known_by, ring_text, window_net, windows
from checks import AskedCase
from making import rounds_taking
from test_windows import NO_TEXTS, random_text


def texts_with(words, most):
    """All ring texts of at most so many letters with just these windows, each once."""
    net = window_net(words)
    return [ring_text(Round(lanes)) for lanes in rounds_taking(net, net.lanes, most)]


def holds(text, word):
    """Whether the word stands somewhere when the text is read round and round."""
    return any(all(text[(place + k) % len(text)] == letter for k,
                   letter in enumerate(word)) for place in range(len(text)))


def root(text):
    """The shortest text of which this one is a multiple, begun at its least place."""
    size = next(n for n in range(1, len(text) + 1) if len(text) % n == 0 and text[:n] * (len(text) // n) == text)
    return min(text[k:size] + text[:k] for k in range(size))


class ContainedTest(AskedCase):
    def test_by_hand(self):
        words = windows("aabab", 2)
        self.assertEqual(words, ["aa", "ab", "ba"])
        for word, verdict in (("a", "sure"), ("b", "sure"), ("c", "never"), ("aa", "sure"), ("bb", "never"),
                              ("ac", "never"),
                              ("aab", "sure"), ("baa", "sure"), ("bab", "open"), ("aaa", "open"), ("abba", "never"),
                              ("baab", "open"), ("aabaa", "open"), ("z" * 60, "never")):
            self.assertEqual(contained(words, word), verdict, word)
            self.assertEqual(contained(tuple(words[::-1]) * 2, word), verdict, word)

    def test_words_shorter_than_the_windows(self):
        words = windows("abcd", 4)
        for word in ("a", "ab", "da", "bcd", "dab", "cda"):
            self.assertEqual(contained(words, word), "sure")
        for word in ("e", "ac", "ba", "abd", "aaa"):
            self.assertEqual(contained(words, word), "never")

    def test_one_ring(self):
        words = windows("abc", 2)
        for word in ("abc" * 20, "cab" * 7 + "c", "bcabcabca"):
            self.assertEqual(contained(words, word), "sure")
        self.assertEqual(contained(words, "abc" * 10 + "b"), "never")
        self.assertEqual(contained(("aa",), "a" * 60), "sure")
        self.assertEqual(contained(("aaaa",), "aa"), "sure")

    def test_wrong_words(self):
        for words in (("ab", "ba"), ("ab", "bc")):
            for wrong in [one for one in NO_TEXTS if one != "a" * 41] + ["a" * 61]:
                with self.assertRaises(BadWord, msg=repr(wrong)) as caught:
                    contained(words, wrong)
                self.assertIs(caught.exception.word, wrong)
        self.assertEqual(contained(("ab", "ba"), "ab" * 30), "sure")

    def test_no_texts_with_these_windows(self):
        for words in (("ab", "bc"), ("ab",), ("aa", "bb"), ("abc", "bca"), ("aab", "aba", "baa", "bbb"), ("abcdefgh",)):
            net = window_net(words)
            asked = Asked(net, net.lanes)
            for word in ("a", "ab", "c", "abcd", "z" * 60):
                self.no_round(asked, lambda: contained(words, word))

    def test_all_texts_up_to_a_length(self):
        source = random.Random(430)
        counts = {"sure": 0, "open": 0, "never": 0}
        for text, k in (("aab", 2), ("aabb", 2), ("abac", 2), ("aabab", 3), ("abcac", 2), ("aabb", 3), ("abaab", 4),
                        ("aaab", 3)):
            words = windows(text, k)
            texts = texts_with(words, 11)
            self.assertTrue(texts)
            for _ in range(60):
                word = random_text(source, "abc", 7)
                if source.random() < 0.6:
                    begun = source.randrange(len(text))
                    word = (text[begun:] + text * 3)[:source.randint(1, 8)]
                found = {holds(one, word) for one in texts}
                verdict = contained(words, word)
                counts[verdict] += 1
                self.assertEqual(found, {"sure": {True}, "never": {False}, "open": {True, False}}[verdict],
                                 (words, word))
        self.assertGreater(min(counts.values()), 20)

    def test_long_words_and_many_windows(self):
        source = random.Random(431)
        for letters, size, k in (("ab", 16, 4), ("abc", 14, 3), ("ab", 12, 8), ("abcd", 14, 2)):
            text = "".join(source.choice(letters) for _ in range(size))
            words = windows(text, k)[:14]
            if not Asked(window_net(words), words):
                words = windows(text[:7], k)
                text = text[:7]
            for word in ((text * 9)[:60], (text * 9)[:59], (text * 5)[:50] + "z", ((text + text[::-1]) * 2)[:60]):
                self.assertIn(contained(words, word), ("sure", "open", "never"))
            self.assertNotEqual(contained(words, (text * 9)[:60]), "never")
            self.assertEqual(contained(words, (text * 5)[:50] + "z"), "never")


class KnownTest(AskedCase):
    def test_by_hand(self):
        for text, k in (("a", 2), ("aaaa", 2), ("ab", 2), ("abab", 2), ("abc", 2), ("aab", 3), ("aabb", 3), ("abac", 3),
                        ("aaab", 4), ("aabab", 5), ("aaaaaab", 7), ("aaaaaaab", 8), ("aaaaaaaab", None),
                        ("abcdefghijklmnopqrstuvwxyz", 2), ("a" * 40, 2), ("ab" + "a" * 38, None)):
            self.assertEqual(known_by(text), k, text)

    def test_wrong_texts(self):
        for wrong in NO_TEXTS:
            with self.assertRaises(BadWord, msg=repr(wrong)) as caught:
                known_by(wrong)
            self.assertIs(caught.exception.word, wrong)

    def test_all_texts_up_to_a_length(self):
        for size in range(1, 6):
            for letters in itertools.product("abc", repeat=size):
                text = "".join(letters)
                if text != min(text[k:] + text[:k] for k in range(size)):
                    continue
                expected = None
                for k in range(2, 9):
                    texts = texts_with(windows(text, k), 9)
                    if {root(one) for one in texts} == {root(text)}:
                        expected = k
                        break
                self.assertEqual(known_by(text), expected, text)

    def test_begun_elsewhere_and_repeated(self):
        source = random.Random(432)
        for _ in range(60):
            text = random_text(source, "ab", 20)
            begun = source.randrange(len(text))
            self.assertEqual(known_by(text[begun:] + text[:begun]), known_by(text))
            self.assertEqual(known_by(text * 2), known_by(text))
            k = known_by(text)
            if k is not None:
                for word in (text * 3, text[::-1] * 2):
                    self.assertEqual(contained(windows(text, k), word) == "sure", holds(text, word))
                    self.assertEqual(contained(windows(text, k), word) == "never", not holds(text, word))
