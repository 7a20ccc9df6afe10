"""The atoms of a pattern, and which of them can follow one another in a word.

A set of atoms is a bit mask here: atom number k is the bit 1 << k.
"""

from alsoshown.expressions import EITHER, NONE, OPTIONAL, THEN, is_atom


class Atoms:
    """The atoms of a pattern, ready for reading words."""

    def __init__(self, steps):
        empty, first, last, follow = _linked(steps)
        self.empty = empty
        self.last = last
        # One more bit stands for "nothing has been read", so that every lane is read in the same way.
        self.begin = 1 << len(follow)
        self.ends = last | self.begin if empty else last
        self._follow = tuple(follow) + (first,)
        self._takes = tuple([step for step in steps if is_atom(step)])

    def taking(self, lane):
        """The atoms that take a lane."""
        mask = 0
        for place, (kind, names) in enumerate(self._takes):
            if (lane in names) != (kind == NONE):
                mask = mask | (1 << place)
        return mask

    def after(self, mask):
        """The atoms that follow one of these."""
        found = 0
        for place in places_in(mask):
            found = found | self._follow[place]
        return found

    def has_word(self, word):
        """Tell whether these lanes are a word of the pattern."""
        here = self.begin
        for lane in word:
            here = self.after(here) & self.taking(lane)
        return (here & self.ends) > 0


def places_in(mask):
    """The places of the bits of a mask, in ascending order."""
    places = []
    while mask > 0:
        lowest = mask & -mask
        places.append(lowest.bit_length() - 1)
        mask = mask ^ lowest
    return places


def _linked(steps):
    """Whether the pattern has the empty word, its first and last atoms, and for each atom those that follow it."""
    follow = []
    stack = []
    for step in steps:
        if is_atom(step):
            stack.append((False, 1 << len(follow), 1 << len(follow)))
            follow.append(0)
            continue
        behind = stack.pop()
        if step[0] == OPTIONAL:
            stack.append((True, behind[1], behind[2]))
        elif step[0] == EITHER:
            stack.append(_either(stack.pop(), behind))
        else:
            # A repeated pattern comes behind itself.
            before = stack.pop() if step[0] == THEN else behind
            for place in places_in(before[2]):
                follow[place] = follow[place] | behind[1]
            stack.append(_joined(before, behind) if step[0] == THEN else (True, behind[1], behind[2]))
    empty, first, last = stack[0]
    return (empty, first, last, follow)


def _either(one, two):
    """Whether one of two patterns has the empty word, and the first and last atoms of both."""
    return (one[0] or two[0], one[1] | two[1], one[2] | two[2])


def _joined(one, two):
    """Whether one pattern followed by another one has the empty word, and its first and last atoms."""
    first = one[1] | two[1] if one[0] else one[1]
    last = one[2] | two[2] if two[0] else two[2]
    return (one[0] and two[0], first, last)
