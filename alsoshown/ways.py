"""Shortest ways on graphs.

A graph is a dict: for each node the list of the pairs of a lane that starts there and the node to which it leads.
"""


def traced(came, node):
    """The lanes to a node, where came gives for each node the one before it and the lane between them, or None."""
    lanes = []
    while came[node] is not None:
        node, lane = came[node]
        lanes.append(lane)
    return lanes[::-1]


def way_until(leads, start, lanes, end=None):
    """A shortest way, of one lane or more, whose last lane is one of these or leads to the end.

    The result is a tuple of the way and the node where it ends, or None if there is no such way.
    """
    came = {start: None}
    queue = [start]
    at = 0
    while at < len(queue):
        here = queue[at]
        at = at + 1
        for lane, there in leads[here]:
            if lane in lanes or there == end:
                return (traced(came, here) + [lane], there)
            if there not in came:
                came[there] = (here, lane)
                queue.append(there)
    return None


def way_taking(leads, start, end, lanes):
    """A way from start to end that takes all these lanes, on a graph with ways from each node to each one."""
    gone = []
    here = start
    left = list(lanes)
    while len(left) > 0:
        way, here = way_until(leads, here, left)
        gone.extend(way)
        left = [lane for lane in left if lane not in way]
    if here != end:
        way, here = way_until(leads, here, (), end)
        gone.extend(way)
    return gone


def shortest_taking(leads, start, lanes, ends):
    """A shortest way from start to one of the ends that takes all these lanes, which are different, or None."""
    bits = {lane: 1 << place for place, lane in enumerate(lanes)}
    every = (1 << len(lanes)) - 1
    came = {(start, 0): None}
    queue = [(start, 0)]
    at = 0
    while at < len(queue):
        here = queue[at]
        at = at + 1
        node, taken = here
        if taken == every and node in ends:
            return traced(came, here)
        for lane, following in leads[node]:
            there = (following, taken | bits.get(lane, 0))
            if there not in came:
                came[there] = (here, lane)
                queue.append(there)
    return None


def numbered(leads):
    """A number for each node: no lane leads to a smaller one, and equal ones have ways to each other."""
    back = {}
    for here in leads:
        back[here] = []
    for here in leads:
        for _, there in leads[here]:
            back[there].append(here)
    numbers = {}
    count = 0
    for start in _left_in_depth(leads)[::-1]:
        if start in numbers:
            continue
        numbers[start] = count
        found = [start]
        while len(found) > 0:
            here = found.pop()
            for there in back[here]:
                if there not in numbers:
                    numbers[there] = count
                    found.append(there)
        count = count + 1
    return numbers


def _left_in_depth(leads):
    """The nodes in the order in which a search in depth leaves them for good."""
    left = []
    seen = {}
    for start in leads:
        if start in seen:
            continue
        seen[start] = True
        trail = [(start, 0)]
        while len(trail) > 0:
            here, many = trail.pop()
            if many == len(leads[here]):
                left.append(here)
                continue
            trail.append((here, many + 1))
            there = leads[here][many][1]
            if there not in seen:
                seen[there] = True
                trail.append((there, 0))
    return left


def lanes_by_number(leads, numbers):
    """For each number, the dict of the lanes that lead from a node with this number to one with the same."""
    inner = {}
    for here in leads:
        number = numbers[here]
        if number not in inner:
            inner[number] = {}
        for lane, there in leads[here]:
            if numbers[there] == number:
                inner[number][lane] = True
    return inner


def of_numbers(leads, numbers, chosen):
    """The graph of the nodes with one of these numbers, and of what leads from them to nodes with the same one."""
    return {
        here: [(lane, there) for lane, there in leads[here] if numbers[there] == numbers[here]]
        for here in leads if numbers[here] in chosen
    }
