"""Nets that change, with wanted lanes and with patterns that are kept under names."""

from alsoshown.errors import BadDeed, BadNumber, NameTaken, NothingBack, NotWanted, StillWanted
from alsoshown.keeping import asked_of, in_order_of, pattern_under, state_of, sure_of, with_pattern
from alsoshown.names import is_integer
from alsoshown.nets import check_lanes

# How many strings a deed of each kind consists of.
LENGTHS = {"put": 4, "take": 2, "want": 2, "drop": 2}


class Watch:
    """A net that changes, wanted lanes and patterns.

    What the attributes hold is never changed, only replaced, so it may also be kept as it was at some time.
    """

    def __init__(self, net, wanted=()):
        check_lanes(net, wanted)
        self._net = net.copy()
        self._wanted = in_order_of(net, wanted)
        self._patterns = {}
        # Each deed that was done, with the net and the wanted lanes just before it.
        self._history = []

    @property
    def net(self):
        """A copy of the present net."""
        return self._net.copy()

    @property
    def wanted(self):
        """The wanted lanes in the order of the net."""
        return in_order_of(self._net, self._wanted)

    @wanted.setter
    def wanted(self, value):
        self.wish(value)

    @property
    def names(self):
        """The names of the patterns in the order in which they were first set."""
        return tuple(self._patterns)

    def wish(self, wanted):
        """Make these the wanted lanes."""
        check_lanes(self._net, wanted)
        self._wanted = in_order_of(self._net, wanted)

    def state(self, name):
        """Tell whether a pattern is sure, open or never on the present net, or that there are no rounds."""
        pattern = self[name]
        return state_of(asked_of(self._net, self._wanted), pattern)

    def states(self):
        """The state of each pattern."""
        asked = asked_of(self._net, self._wanted)
        return {name: state_of(asked, self._patterns[name]) for name in self._patterns}

    def sure(self):
        """The greatest sure stretches in ascending order, or None if all rounds are multiples of one."""
        return sure_of(asked_of(self._net, self._wanted))

    def do(self, deed):
        """Do a deed."""
        self._do_all([deed])

    def told(self):
        """The deeds that were done and are not undone."""
        return [row[0] for row in self._history]

    def back(self, number=1):
        """Undo so many deeds, the last ones."""
        if not is_integer(number) or number < 0:
            raise BadNumber(number)
        left = len(self._history) - number
        if left < 0:
            raise NothingBack()
        if number > 0:
            _, self._net, self._wanted = self._history[left]
            self._history = self._history[:left]

    def trial(self):
        """An object for a with statement, at whose end everything is as it was at its beginning."""
        return Trial(self)

    def _do_all(self, deeds):
        """Do these deeds; if one of them is refused, none of them is done."""
        net = self._net
        wanted = self._wanted
        history = list(self._history)
        for place, deed in enumerate(deeds):
            _check_deed(deed, place)
            history.append((deed, net, wanted))
            net, wanted = _after(net, wanted, deed)
        self._net = net
        self._wanted = wanted
        self._history = history

    def __getitem__(self, at):
        return pattern_under(self._patterns, at)

    def __setitem__(self, at, worth):
        self._patterns = with_pattern(self._patterns, at, worth)

    def __contains__(self, x):
        return isinstance(x, str) and x in self._patterns

    def __iter__(self):
        # Without this, Python would try watch[0], watch[1] and so on.
        raise TypeError("a watched net is not iterated over: take its names")

    def __len__(self):
        return len(self._patterns)

    def __iadd__(self, other):
        self._do_all(other)
        return self


class Trial:
    """Keeps what a watched net is at the beginning of a with statement, and gives it back at the end."""

    def __init__(self, watch):
        self._watch = watch

    def __enter__(self):
        watch = self._watch
        self._net = watch._net
        self._wanted = watch._wanted
        self._patterns = watch._patterns
        self._history = watch._history
        return watch

    def __exit__(self, kind, value, trace):
        watch = self._watch
        watch._net = self._net
        watch._wanted = self._wanted
        watch._patterns = self._patterns
        watch._history = self._history


def turned(watch, deeds):
    """The patterns whose state these deeds would change: a dict of the states before and after them."""
    before = watch.states()
    with watch.trial():
        watch._do_all(deeds)
        after = watch.states()
    return {name: (before[name], after[name]) for name in before if before[name] != after[name]}


def _check_deed(deed, place):
    """Raise BadDeed with this place if this is not a deed."""
    if not isinstance(deed, tuple) or len(deed) == 0 or not all([isinstance(word, str) for word in deed]):
        raise BadDeed(place)
    if LENGTHS.get(deed[0]) != len(deed):
        raise BadDeed(place)


def _after(net, wanted, deed):
    """The net and the wanted lanes after a deed; those that are passed stay as they are."""
    changed = net.copy()
    lane = deed[1]
    if deed[0] == "put":
        changed.lane(lane, deed[2], deed[3])
        return (changed, wanted)
    check_lanes(net, (lane,))
    if deed[0] == "take":
        if lane in wanted:
            raise StillWanted(lane)
        changed.cut(lane)
        return (changed, wanted)
    if deed[0] == "want":
        if lane in wanted:
            raise NameTaken(lane)
        return (changed, wanted + (lane,))
    if lane not in wanted:
        raise NotWanted(lane)
    return (changed, tuple([other for other in wanted if other != lane]))
