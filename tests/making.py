"""Nets for the tests, made from short texts."""

from alsoshown.nets import Net


def net_of(posts, lanes=""):
    """A net from a text of posts and a text of lanes: net_of("u v", "a u v, b v u")."""
    net = Net()
    for post in posts.split():
        net.post(post)
    for row in lanes.split(","):
        if row.strip():
            net.lane(*row.split())
    return net


def rows_of(net):
    """All that a net consists of, in its order."""
    return (net.posts, [(lane, net.start_of(lane), net.end_of(lane)) for lane in net.lanes])


def small_nets():
    """Every net on three posts with at most one lane from each post to each post."""
    posts = "uvw"
    pairs = [(a, b) for a in posts for b in posts]
    for choice in range(2 ** len(pairs)):
        net = net_of("u v w")
        for k, (a, b) in enumerate(pairs):
            if choice >> k & 1:
                net.lane(f"l{k}", a, b)
        yield net
