"""Nets with wanted lanes: what is shown in every round that takes these, in some, and in none, with evidence."""

from alsoshown.errors import NoRound, NothingWanted
from alsoshown.nets import check_lanes, parts_of, ways_from
from alsoshown.patterns import pattern_of
from alsoshown.rounds import Round
from alsoshown.standings import Standings, written_out
from alsoshown.ways import lanes_by_number, numbered, of_numbers, way_taking


class Asked:
    """A net and the lanes that each round has to take."""

    def __init__(self, net, wanted):
        if len(wanted) == 0:
            raise NothingWanted()
        check_lanes(net, wanted)
        self._net = net.copy()
        self._wanted = tuple([lane for lane in net.lanes if lane in wanted])
        self._part = _part_with(net, self._wanted)

    @property
    def net(self):
        """A copy of the net."""
        return self._net.copy()

    @property
    def wanted(self):
        """The wanted lanes in the order of the net."""
        return self._wanted

    def part(self):
        """The part in which all rounds lie."""
        if self._part is None:
            first, second, side = _without_way(self._net, self._wanted)
            raise NoRound(first, second, side)
        return self._part

    def round(self):
        """A round that takes all wanted lanes."""
        return _round_with(self, [])

    def __bool__(self):
        return self._part is not None

    def __call__(self, pattern):
        """Tell whether every round shows the pattern, or none, or neither of these."""
        sought = pattern_of(pattern)
        if avoiding(self, sought) is None:
            return "sure"
        return "never" if showing(self, sought) is None else "open"


def _part_with(net, wanted):
    """The part of which all these lanes are inner lanes, or None."""
    for posts, lanes in parts_of(net):
        if all([lane in lanes for lane in wanted]):
            return (posts, lanes)
    return None


def _without_way(net, wanted):
    """The first two wanted lanes without a way from one to the other, and the posts to which there is one."""
    for first in wanted:
        ways = ways_from(net, net.end_of(first))
        for second in wanted:
            if net.start_of(second) not in ways:
                return (first, second, tuple([post for post in net.posts if post in ways]))
    return None


def graph_of_part(net, part):
    """The posts of a part, each with its inner lanes and where they lead."""
    posts, lanes = part
    return {
        post: [(lane, net.end_of(lane)) for lane in net.out_of(post) if lane in lanes]
        for post in posts
    }


def _round_with(asked, walk):
    """A round of asked that begins with this walk within the part, or any one if the walk has no lanes."""
    net = asked.net
    leads = graph_of_part(net, asked.part())
    start = net.start_of(walk[0] if len(walk) > 0 else asked.wanted[0])
    here = net.end_of(walk[-1]) if len(walk) > 0 else start
    left = [lane for lane in asked.wanted if lane not in walk]
    return Round(walk + way_taking(leads, here, start, left))


def standings_of(asked, pattern):
    """The standings in the part of asked that can be reached without completing the pattern."""
    # Where there are no rounds, this is where NoRound is raised, so it comes before all that is decided.
    posts, lanes = asked.part()
    return Standings(asked.net, posts, lanes, pattern)


def showing(asked, pattern):
    """A round of asked that shows the pattern, or None."""
    sought = pattern_of(pattern)
    if sought.atoms.empty:
        return asked.round()
    walk = standings_of(asked, sought).completing()
    return None if walk is None else _round_with(asked, walk)


def avoiding(asked, pattern):
    """A round of asked that does not show the pattern, or None."""
    leads, numbers, chosen = numbers_without(asked, pattern_of(pattern))
    if len(chosen) == 0:
        return None
    return _round_among(of_numbers(leads, numbers, (chosen[0],)), asked.wanted)


def numbers_without(asked, sought):
    """The graph of the standings, their numbers, and those numbers in which rounds of asked avoid the pattern."""
    leads = standings_of(asked, sought).leads
    if sought.atoms.empty:
        return ({}, {}, [])
    # A round that goes on for ever without showing the pattern comes back to a standing, so it stays in one number.
    numbers = numbered(leads)
    inner = lanes_by_number(leads, numbers)
    return (leads, numbers, [number for number in inner if all([lane in inner[number] for lane in asked.wanted])])


def _round_among(leads, wanted):
    """A round that takes all wanted lanes on this graph, where ways lead from each node to each one."""
    starts = [here for here in leads if wanted[0] in [lane for lane, _ in leads[here]]]
    return Round(way_taking(leads, starts[0], starts[0], wanted))


def paper(asked, pattern):
    """The evidence that every round of asked shows the pattern, or None."""
    sought = pattern_of(pattern)
    leads = standings_of(asked, sought).leads
    if sought.atoms.empty:
        return ({}, {})
    numbers = numbered(leads)
    inner = lanes_by_number(leads, numbers)
    lanes = {}
    for number in inner:
        missing = [lane for lane in asked.wanted if lane not in inner[number]]
        if len(missing) == 0:
            return None
        lanes[number] = missing[0]
    return ({written_out(here): numbers[here] for here in numbers}, lanes)


def never(asked, pattern):
    """The evidence that no round of asked shows the pattern, or None."""
    sought = pattern_of(pattern)
    standings = standings_of(asked, sought)
    if sought.atoms.empty or standings.completing() is not None:
        return None
    return sorted(set([written_out(here) for here in standings.leads]))
