"""Patterns: sets of sequences of lanes."""

from alsoshown.atoms import Atoms
from alsoshown.errors import BadNumber
from alsoshown.expressions import ANY, EITHER, NONE, OPTIONAL, REPEATED, THEN, in_order, named_by, opposite, text_of
from alsoshown.names import check_name, check_sequence, is_integer, is_name
from alsoshown.reading import steps_of
from alsoshown.ways import traced


class Pattern:
    """A set of sequences of lanes, its words."""

    def __init__(self, steps):
        self._steps = steps
        self.atoms = Atoms(steps)

    @classmethod
    def read(cls, text):
        """The pattern that a written pattern describes."""
        return cls(steps_of(text))

    @property
    def text(self):
        """The written pattern."""
        return text_of(self._steps)

    @property
    def names(self):
        """The names with which the pattern was built, in ascending order."""
        return named_by(self._steps)

    def __contains__(self, x):
        if not isinstance(x, (tuple, list)) or not all([is_name(name) for name in x]):
            return False
        return self.atoms.has_word(x)

    def __bool__(self):
        return not self.atoms.empty

    def __add__(self, other):
        return Pattern(self._steps + other._steps + ((THEN, ()),))

    def __or__(self, other):
        return Pattern(self._steps + other._steps + ((EITHER, ()),))

    def __mul__(self, other):
        if not is_integer(other) or other < 1:
            raise BadNumber(other)
        return Pattern(self._steps + (self._steps + ((THEN, ()),)) * (other - 1))

    def __neg__(self):
        return Pattern(opposite(self._steps))


def any_of(*names):
    """The words of one lane that is one of these."""
    check_sequence(names)
    return Pattern(((ANY, in_order(names)),))


def none_of(*names):
    """The words of one lane that is none of these."""
    for name in names:
        check_name(name)
    return Pattern(((NONE, in_order(names)),))


def walk_of(*names):
    """The one word of these lanes."""
    check_sequence(names)
    steps = []
    for place, name in enumerate(names):
        steps.append((ANY, (name,)))
        if place > 0:
            steps.append((THEN, ()))
    return Pattern(tuple(steps))


def repeated(p):
    """Any number of words of the pattern, one after another."""
    return Pattern(p._steps + ((REPEATED, ()),))


def optional(p):
    """The words of the pattern, and the empty one."""
    return Pattern(p._steps + ((OPTIONAL, ()),))


def pattern_of(given):
    """What is passed as a pattern: one itself, or a tuple of names that stands for their walk."""
    if isinstance(given, Pattern):
        return given
    return walk_of(*given)


def unshown(lanes):
    """A pattern that no walk of these lanes shows."""
    return any_of(_other_name(lanes))


def _other_name(names):
    """A name that is none of these."""
    count = 0
    while f"x{count}" in names:
        count = count + 1
    return f"x{count}"


def within(p, q):
    """Tell whether every word of p is a word of q."""
    less = pattern_of(p)
    more = pattern_of(q)
    return parting(less | more, more) is None


def parting(p, q):
    """A shortest word that exactly one of the two patterns has, or None."""
    left = pattern_of(p)
    right = pattern_of(q)
    one = left.atoms
    two = right.atoms
    lanes = _different_lanes(left, right)
    start = (one.begin, two.begin)
    came = {start: None}
    queue = [start]
    at = 0
    while at < len(queue):
        here = queue[at]
        at = at + 1
        if ((here[0] & one.ends) > 0) != ((here[1] & two.ends) > 0):
            return tuple(traced(came, here))
        ahead = (one.after(here[0]), two.after(here[1]))
        for first, second in lanes:
            there = (ahead[0] & first, ahead[1] & second)
            if there not in came:
                came[there] = (here, lanes[first, second])
                queue.append(there)
    return None


def _different_lanes(one, two):
    """One lane for each way in which atoms of the two patterns take it: a dict of lanes by these pairs of masks."""
    names = one.names + two.names
    lanes = {}
    # One name that neither pattern has stands for all of these.
    for lane in names + (_other_name(names),):
        taking = (one.atoms.taking(lane), two.atoms.taking(lane))
        if taking not in lanes:
            lanes[taking] = lane
    return lanes
