"""Nets for the tests, made from short texts, and the rounds of a net, found by trying."""

from alsoshown.nets import Net


def net_of(posts, lanes=""):
    """A net from a text of posts and a text of lanes: net_of("u v", "a u v, b v u")."""
    net = Net()
    for post in posts.split():
        net.post(post)
    for row in lanes.split(","):
        if row.strip():
            net.lane(*row.split())
    return net


def rows_of(net):
    """All that a net consists of, in its order."""
    return (net.posts, [(lane, net.start_of(lane), net.end_of(lane)) for lane in net.lanes])


def small_nets():
    """Every net on three posts with at most one lane from each post to each post."""
    posts = "uvw"
    pairs = [(a, b) for a in posts for b in posts]
    for choice in range(2 ** len(pairs)):
        net = net_of("u v w")
        for k, (a, b) in enumerate(pairs):
            if choice >> k & 1:
                net.lane(f"l{k}", a, b)
        yield net


def ring_net(many):
    """A net that is a single ring of so many lanes."""
    net = Net()
    for k in range(many):
        net.post(f"p{k}")
    for k in range(many):
        net.lane(f"l{k}", f"p{k}", f"p{(k + 1) % many}")
    return net


def random_net(source, posts, lanes, joined=True):
    """A net of so many posts and lanes; if it is joined, a ring through all posts is among the lanes."""
    order = source.sample(range(posts), posts)
    pairs = list(zip(order, order[1:] + order[:1])) if joined else []
    while len(pairs) < lanes:
        pairs.append((source.randrange(posts), source.randrange(posts)))
    source.shuffle(pairs)
    net = Net()
    for k in range(posts):
        net.post(f"p{k}")
    for k, (a, b) in enumerate(pairs):
        net.lane(f"l{k}", f"p{a}", f"p{b}")
    return net


def random_walk(source, net, most):
    """A walk of at most so many lanes; it is shorter where no lane leads on."""
    lanes = [source.choice(net.lanes)]
    while len(lanes) < most and net.out_of(net.end_of(lanes[-1])):
        lanes.append(source.choice(net.out_of(net.end_of(lanes[-1]))))
    return tuple(lanes)


def closed_walks(net, most):
    """The lanes of every round of the net of at most so many lanes, begun at each of its places."""
    walks = [(lane,) for lane in net.lanes]
    for _ in range(most):
        yield from [lanes for lanes in walks if net.end_of(lanes[-1]) == net.start_of(lanes[0])]
        walks = [lanes + (lane,) for lanes in walks for lane in net.out_of(net.end_of(lanes[-1]))]


def rounds_taking(net, wanted, most):
    """The lanes of every round of at most so many lanes that takes these lanes, each round once."""
    found = {}
    for lanes in closed_walks(net, most):
        if set(wanted) <= set(lanes):
            found.setdefault(min(lanes[k:] + lanes[:k] for k in range(len(lanes))), lanes)
    return list(found.values())
