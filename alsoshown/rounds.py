"""Rounds: sequences of lanes that are gone again and again without end."""

from alsoshown.errors import BadNumber, EmptyWalk
from alsoshown.names import check_sequence, is_integer


class Round:
    """One or more lanes that go round."""

    def __init__(self, lanes):
        check_sequence(lanes)
        self._lanes = tuple(lanes)

    @property
    def lanes(self):
        """The lanes as they were passed."""
        return self._lanes

    def root(self):
        """The shortest round of which this one is a multiple, and how many times it is gone."""
        many = len(self._lanes)
        size = 1
        while self._lanes[:size] * (many // size) != self._lanes:
            size = size + 1
        return (Round(self._lanes[:size]), many // size)

    def least(self):
        """The least tuple of lanes of all equal rounds."""
        return least_turn(self._lanes)

    def taken(self):
        """The different lanes in ascending order."""
        return tuple(sorted(set(self._lanes)))

    def places(self, lanes):
        """The places at which a sequence of lanes begins."""
        if len(lanes) == 0:
            raise EmptyWalk()
        sought = tuple(lanes)
        many = len(self._lanes)
        gone = self._lanes * (len(sought) // many + 2)
        return [place for place in range(many) if gone[place:place + len(sought)] == sought]

    def __getitem__(self, at):
        if not is_integer(at):
            raise BadNumber(at)
        return self._lanes[at % len(self._lanes)]

    def __len__(self):
        return len(self._lanes)

    def __iter__(self):
        # Without this, Python would go on with ring[0], ring[1] and so on for ever.
        raise TypeError("a round has no end: take its lanes")

    def __contains__(self, x):
        if not isinstance(x, (tuple, list)) or len(x) == 0:
            return False
        if not all([isinstance(lane, str) for lane in x]):
            return False
        return len(self.places(x)) > 0

    def __eq__(self, other):
        return isinstance(other, Round) and least_turn(self._lanes) == least_turn(other._lanes)

    def __mul__(self, other):
        if not is_integer(other) or other < 1:
            raise BadNumber(other)
        return Round(self._lanes * other)

    def __lshift__(self, other):
        if not is_integer(other):
            raise BadNumber(other)
        place = other % len(self._lanes)
        return Round(self._lanes[place:] + self._lanes[:place])

    def __neg__(self):
        return Round(self._lanes[::-1])


def least_turn(lanes):
    """The least tuple among those that go round in the same way and begin elsewhere."""
    least = lanes
    for place in range(1, len(lanes)):
        turned = lanes[place:] + lanes[:place]
        if turned < least:
            least = turned
    return least


def fits(net, ring):
    """Tell whether the ring is a round of the net."""
    lanes = ring.lanes
    if not all([lane in net for lane in lanes]):
        return False
    # At place 0 the lane before is lanes[-1], the last one.
    return all([net.end_of(lanes[place - 1]) == net.start_of(lanes[place]) for place in range(len(lanes))])
