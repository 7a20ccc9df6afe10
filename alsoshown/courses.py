"""Courses: any number of runs from a start to one of several ends."""

from alsoshown.chains import chains_of, unrelated_of
from alsoshown.errors import Brought, NoRun, SameLane
from alsoshown.nets import check_lanes, check_posts, way_from, ways_from
from alsoshown.patterns import pattern_of, unshown
from alsoshown.standings import Standings
from alsoshown.ways import shortest_taking


class Course:
    """A net with a start and ends."""

    def __init__(self, net, start, ends):
        check_posts(net, (start,))
        check_posts(net, ends)
        self._net = net.copy()
        self.start = start
        self.ends = tuple([post for post in net.posts if post in ends])

    @property
    def net(self):
        """A copy of the net."""
        return self._net.copy()

    def __contains__(self, x):
        if not isinstance(x, (tuple, list)):
            return False
        here = self.start
        for lane in x:
            if lane not in self._net or self._net.start_of(lane) != here:
                return False
            here = self._net.end_of(lane)
        return here in self.ends

    def __len__(self):
        return len(lanes_of(self))


def lanes_of(course):
    """The lanes that some run takes, in the order of the net."""
    net = course.net
    reached = ways_from(net, course.start)
    leaving = [post for post in reached if _way_out(course, post) is not None]
    return tuple([lane for lane in net.lanes if net.start_of(lane) in reached and net.end_of(lane) in leaving])


def _way_out(course, post):
    """A way from the post to an end, or None."""
    ways = ways_from(course.net, post)
    found = [ways[end] for end in course.ends if end in ways]
    return found[0] if len(found) > 0 else None


def _check_taken(course, lanes):
    """Raise NoLane for the first one that is not a lane of the net, then NoRun for the first one that no run takes."""
    check_lanes(course.net, lanes)
    taken = lanes_of(course)
    for lane in lanes:
        if lane not in taken:
            raise NoRun(lane)


def _runs_without(course, sought, rows):
    """For each row of different lanes a shortest run that takes all of them and does not show the pattern, or None."""
    if sought.atoms.empty:
        return [None for _ in rows]
    net = course.net
    leads = Standings(net, [course.start], net.lanes, sought).leads
    ends = {here: True for here in leads if here[0] in course.ends}
    return [shortest_taking(leads, (course.start, 0), row, ends) for row in rows]


def without(course, lane, pattern):
    """A run that takes the lane and does not show the pattern, or None."""
    sought = pattern_of(pattern)
    _check_taken(course, (lane,))
    return _runs_without(course, sought, [(lane,)])[0]


def suite(course, wanted, pattern):
    """For each wanted lane a run that takes it and does not show the pattern."""
    sought = pattern_of(pattern)
    _check_taken(course, wanted)
    runs = _runs_without(course, sought, [(lane,) for lane in wanted])
    for lane, run in zip(wanted, runs):
        if run is None:
            raise Brought(lane)
    return runs


def together(course, wanted, pattern=None):
    """A shortest run that takes all wanted lanes and does not show the pattern if there is one, or None."""
    net = course.net
    sought = unshown(net.lanes) if pattern is None else pattern_of(pattern)
    check_lanes(net, wanted)
    return _runs_without(course, sought, [[lane for lane in net.lanes if lane in wanted]])[0]


def gate(course, lane, other):
    """The evidence that every run that takes the lane takes the other one, too, or None."""
    check_lanes(course.net, (lane, other))
    if lane == other:
        raise SameLane(lane)
    _check_taken(course, (lane,))
    return _gate_between(course, lane, other)


def _gate_between(course, lane, other):
    """The gate for two different lanes, the first of which some run takes."""
    net = course.net - (other,)
    reached = ways_from(net, course.start)
    if net.start_of(lane) not in reached:
        return ("before", tuple([post for post in net.posts if post in reached]))
    beyond = ways_from(net, net.end_of(lane))
    if not any([end in beyond for end in course.ends]):
        return ("behind", tuple([post for post in net.posts if post in beyond]))
    return None


def goals(course):
    """The goals: a lane of each of them is enough to take all lanes that some run takes."""
    lanes = lanes_of(course)
    brought = {
        lane: [other for other in lanes if lane == other or _gate_between(course, lane, other) is not None]
        for lane in lanes
    }
    found = []
    for lane in lanes:
        goal = tuple([other for other in brought[lane] if lane in brought[other]])
        # If one of these lanes is brought by a lane, all of them are.
        bringing = [other for other in lanes if lane in brought[other] and other not in goal]
        if goal[0] == lane and len(bringing) == 0:
            found.append(goal)
    return found


def fewest(course, wanted):
    """As few runs as possible that together take all wanted lanes."""
    _check_taken(course, wanted)
    groups = _groups(course, wanted)
    chains = chains_of(_behind(course, groups))
    return [_run_along(course, [lane for first in chain for lane in groups[first]]) for chain in chains]


def apart(course, wanted):
    """As many wanted lanes as possible of which no run takes two."""
    _check_taken(course, wanted)
    chosen = unrelated_of(_behind(course, _groups(course, wanted)))
    return tuple([lane for lane in course.net.lanes if lane in chosen])


def _groups(course, wanted):
    """The different wanted lanes in groups that a run can take in any order: lists by their first lanes."""
    net = course.net
    ordered = [lane for lane in net.lanes if lane in wanted]
    ahead = {lane: ways_from(net, net.end_of(lane)) for lane in ordered}
    groups = {}
    for lane in ordered:
        start = net.start_of(lane)
        firsts = [first for first in groups if start in ahead[first] and net.start_of(first) in ahead[lane]]
        first = firsts[0] if len(firsts) > 0 else lane
        groups[first] = groups.get(first, []) + [lane]
    return groups


def _behind(course, firsts):
    """For each of these lanes the other ones that a run can take behind it."""
    net = course.net
    ahead = {lane: ways_from(net, net.end_of(lane)) for lane in firsts}
    return {lane: [other for other in firsts if other != lane and net.start_of(other) in ahead[lane]]
            for lane in firsts}


def _run_along(course, lanes):
    """A run that takes these lanes, where a way leads from each of them to the next one."""
    net = course.net
    here = course.start
    run = []
    for lane in lanes:
        if lane not in run:
            run = run + way_from(net, here, net.start_of(lane)) + [lane]
            here = net.end_of(lane)
    return run + _way_out(course, here)
