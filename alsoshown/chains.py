"""Chains of nodes that follow one another, and nodes of which none follows another one.

A dict follow gives for each node the list of all nodes that come behind it. What comes behind a node that comes behind
another one comes behind this one, too, and no node comes behind itself.
"""


def chains_of(follow):
    """As few lists as possible that together contain each node once; in a list each node comes behind those before."""
    before, behind = _matched(follow)
    chains = []
    for node in follow:
        if node not in before:
            chain = [node]
            while chain[-1] in behind:
                chain.append(behind[chain[-1]])
            chains.append(chain)
    return chains


def unrelated_of(follow):
    """As many nodes as possible of which none comes behind another one. There are as many as chains."""
    before, behind = _matched(follow)
    # The theorem of Koenig: in a greatest matching, one node of each pair touches all there is, and these are left.
    left = {node: True for node in follow if node not in behind}
    right = {}
    queue = list(left)
    while len(queue) > 0:
        here = queue.pop()
        for there in follow[here]:
            if there not in right:
                right[there] = True
                left[before[there]] = True
                queue.append(before[there])
    return [node for node in follow if node in left and node not in right]


def _matched(follow):
    """As many pairs as possible of a node and one behind it, no node twice on the same side, as dicts both ways."""
    before = {}
    behind = {}
    for start in follow:
        came, there = _way_to_free(follow, start, before)
        # Along the way that was found each node gets the one behind it, and gives up the one that it had.
        while there is not None:
            here = came[there]
            given_up = behind.get(here)
            before[there] = here
            behind[here] = there
            there = given_up
    return (before, behind)


def _way_to_free(follow, start, before):
    """From which node each other one was met while nodes are sought that none is before yet, and the first such one."""
    came = {}
    queue = [start]
    at = 0
    while at < len(queue):
        here = queue[at]
        at = at + 1
        for there in follow[here]:
            if there not in came:
                came[there] = here
                if there not in before:
                    return (came, there)
                queue.append(before[there])
    return (came, None)
