"""Ring texts: texts that go round, and what is known of them if all their windows are known."""

from alsoshown.asked import Asked
from alsoshown.errors import BadNumber, BadWord, EmptyWalk
from alsoshown.names import LETTERS, is_integer
from alsoshown.nets import Net
from alsoshown.rounds import Round

# The lengths that windows may have, and the greatest lengths of ring texts and of words that are looked for.
SHORTEST_WINDOW = 2
LONGEST_WINDOW = 8
LONGEST_TEXT = 40
LONGEST_WORD = 60


def windows(text, k):
    """The different words of k letters that a ring text contains, in ascending order."""
    return sorted(set(_windows_in_order(text, k)))


def window_net(words):
    """The net whose rounds that take all lanes are the ring texts with just these windows."""
    _check_words(words)
    net = Net()
    for post in sorted(set([word[:-1] for word in words] + [word[1:] for word in words])):
        net.post(post)
    for word in sorted(set(words)):
        net.lane(word, word[:-1], word[1:])
    return net


def ring_text(ring):
    """The ring text of a round: the first letters of its lanes."""
    return "".join([lane[0] for lane in ring.lanes])


def text_round(text, k):
    """The round of the windows of k letters of a ring text."""
    return Round(_windows_in_order(text, k))


def contained(words, word):
    """Tell whether every ring text with just these windows contains the word, or none, or neither of these."""
    net = window_net(words)
    _check_word(word, 1, LONGEST_WORD)
    asked = Asked(net, net.lanes)
    size = len(words[0])
    if len(word) >= size:
        return asked(tuple([word[place:place + size] for place in range(len(word) - size + 1)]))
    # This raises NoRound if there are no ring texts at all.
    _, lanes = asked.part()
    return "sure" if any([word in window for window in lanes]) else "never"


def known_by(text):
    """The least k such that all ring texts with the same windows are multiples of one, or None."""
    for k in range(SHORTEST_WINDOW, LONGEST_WINDOW + 1):
        net = window_net(windows(text, k))
        # All posts and lanes of this net are in one part; it is a single ring exactly if there are as many of both.
        if len(net.posts) == len(net.lanes):
            return k
    return None


def _windows_in_order(text, k):
    """The word of k letters at each place of the ring text."""
    _check_word(text, 1, LONGEST_TEXT)
    if not is_integer(k) or not SHORTEST_WINDOW <= k <= LONGEST_WINDOW:
        raise BadNumber(k)
    gone = text * (k // len(text) + 2)
    return [gone[place:place + k] for place in range(len(text))]


def _check_words(words):
    """Raise EmptyWalk or BadWord if these are not one or more windows of the same length."""
    if len(words) == 0:
        raise EmptyWalk()
    for word in words:
        _check_word(word, SHORTEST_WINDOW, LONGEST_WINDOW)
        if len(word) != len(words[0]):
            raise BadWord(word)


def _check_word(word, least, most):
    """Raise BadWord if this is not a string of so many lower-case letters."""
    if not isinstance(word, str) or not least <= len(word) <= most:
        raise BadWord(word)
    if not all([letter in LETTERS for letter in word]):
        raise BadWord(word)
