"""Nets of posts and one-way lanes, walks and ways on them, and their parts."""

from alsoshown.errors import BadWalk, Clash, EmptyWalk, NameTaken, NoLane, NoPost
from alsoshown.names import check_name


class Net:
    """Posts, and lanes that lead from one post to one post."""

    def __init__(self):
        # Both dicts keep the order in which posts and lanes were added.
        self._posts = {}
        self._ends = {}

    def post(self, name):
        """Add a post."""
        check_name(name)
        if name in self._posts:
            raise NameTaken(name)
        self._posts[name] = True

    def lane(self, name, start, end):
        """Add a lane."""
        check_name(name)
        if name in self._ends:
            raise NameTaken(name)
        check_posts(self, (start, end))
        self._ends[name] = (start, end)

    def cut(self, lane):
        """Take a lane away."""
        check_lanes(self, (lane,))
        del self._ends[lane]

    @property
    def posts(self):
        """The posts in the order in which they were added."""
        return tuple(self._posts)

    @property
    def lanes(self):
        """The lanes in the order in which they were added."""
        return tuple(self._ends)

    def start_of(self, lane):
        """The post from which a lane leads."""
        check_lanes(self, (lane,))
        return self._ends[lane][0]

    def end_of(self, lane):
        """The post to which a lane leads."""
        check_lanes(self, (lane,))
        return self._ends[lane][1]

    def out_of(self, post):
        """The lanes that start at a post."""
        check_posts(self, (post,))
        return tuple([lane for lane in self._ends if self._ends[lane][0] == post])

    def copy(self):
        """Another net with the same posts and lanes."""
        return _net_of(self._posts, self._ends)

    def __getitem__(self, at):
        first, second = at
        check_posts(self, (first, second))
        return tuple([lane for lane in self._ends if self._ends[lane] == (first, second)])

    def __contains__(self, x):
        return isinstance(x, str) and x in self._ends

    def __iter__(self):
        # Without this, Python would try net[0], net[1] and so on.
        raise TypeError("a net is not iterated over: take its posts or its lanes")

    def __len__(self):
        return len(self._ends)

    def __sub__(self, other):
        check_lanes(self, other)
        left = [lane for lane in self._ends if lane not in other]
        return _net_of(self._posts, {lane: self._ends[lane] for lane in left})

    def __or__(self, other):
        for lane in self._ends:
            if lane in other._ends and other._ends[lane] != self._ends[lane]:
                raise Clash(lane)
        return _net_of({**self._posts, **other._posts}, {**self._ends, **other._ends})

    def __ior__(self, other):
        both = self | other
        self._posts = both._posts
        self._ends = both._ends
        return self

    def __neg__(self):
        return _net_of(self._posts, {lane: self._ends[lane][::-1] for lane in self._ends})

    def __le__(self, other):
        if not isinstance(other, Net):
            return NotImplemented
        if not all([post in other._posts for post in self._posts]):
            return False
        return all([other._ends.get(lane) == self._ends[lane] for lane in self._ends])

    def __eq__(self, other):
        return isinstance(other, Net) and self._posts == other._posts and self._ends == other._ends


def _net_of(posts, ends):
    """A net with copies of these two dicts."""
    made = Net()
    made._posts = dict(posts)
    made._ends = dict(ends)
    return made


def check_posts(net, names):
    """Raise NoPost for the first name that is not a post of the net."""
    for name in names:
        if name not in net.posts:
            raise NoPost(name)


def check_lanes(net, names):
    """Raise NoLane for the first name that is not a lane of the net."""
    for name in names:
        if name not in net:
            raise NoLane(name)


def walked(net, lanes):
    """The posts along a walk."""
    if len(lanes) == 0:
        raise EmptyWalk()
    check_lanes(net, lanes)
    posts = [net.start_of(lanes[0])]
    for place, lane in enumerate(lanes):
        if net.start_of(lane) != posts[place]:
            raise BadWalk(place)
        posts.append(net.end_of(lane))
    return tuple(posts)


def ways_from(net, post):
    """A shortest way to each post to which one leads from this one, as a dict of lists of lanes."""
    ways = {post: []}
    queue = [post]
    while queue:
        here = queue.pop(0)
        for lane in net.out_of(here):
            end = net.end_of(lane)
            if end not in ways:
                ways[end] = ways[here] + [lane]
                queue.append(end)
    return ways


def way_from(net, a, b):
    """The lanes of a shortest way from a to b, or None if there is no way."""
    check_posts(net, (a, b))
    return ways_from(net, a).get(b)


def parts_of(net):
    """The parts of a net, each as a tuple of its posts and its inner lanes."""
    ways = {start: ways_from(net, start) for start in net.posts}
    parts = []
    for post in net.posts:
        posts = tuple([other for other in net.posts if other in ways[post] and post in ways[other]])
        lanes = _inner_lanes(net, posts)
        # Each post of a part finds the whole part; its first post counts.
        if posts[0] == post and len(lanes) > 0:
            parts.append((posts, lanes))
    return parts


def _inner_lanes(net, posts):
    """The lanes whose start and end are both among the posts."""
    return tuple([lane for lane in net.lanes if net.start_of(lane) in posts and net.end_of(lane) in posts])
