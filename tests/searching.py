"""Searches of the tests: plain ones, through all sets of lanes or level by level, apart from the program."""

import itertools


class Nothing:
    """A reader of no pattern at all."""

    empty = False

    def step(self, atoms, lane):
        return (), False

    def shown_along(self, lanes):
        return False

    def shown_by(self, lanes):
        return False


def sets_of(lanes, least=1):
    """All sets of these lanes, as tuples in the same order, in the order of their places."""
    places = [row for many in range(least, len(lanes) + 1) for row in itertools.combinations(range(len(lanes)), many)]
    return [tuple(lanes[place] for place in row) for row in sorted(places)]


def closure(pairs, nodes):
    """For each node the set of the nodes to which these pairs lead, itself included."""
    reached = {node: {node} for node in nodes}
    changed = True
    while changed:
        changed = False
        for a, b in pairs:
            for node in nodes:
                if a in reached[node] and b not in reached[node]:
                    reached[node].add(b)
                    changed = True
    return reached


def taken_sets(net):
    """Each set of lanes that is all that some round of the net takes."""
    found = []
    for lanes in sets_of(net.lanes):
        pairs = [(net.start_of(lane), net.end_of(lane)) for lane in lanes]
        posts = {post for pair in pairs for post in pair}
        reached = closure(pairs, posts)
        if all(reached[post] == posts for post in posts):
            found.append(set(lanes))
    return found


def standings_from(net, posts, reader, lanes=None):
    """All standings reached without completing the pattern, each with the pairs of a lane and the next standing."""
    rows, queue = {}, [(post, ()) for post in posts]
    while queue:
        here = queue.pop()
        if here in rows:
            continue
        rows[here] = []
        for lane in net.out_of(here[0]):
            if lanes is None or lane in lanes:
                atoms, completed = reader.step(here[1], lane)
                if not completed:
                    rows[here].append((lane, (net.end_of(lane), atoms)))
                    queue.append((net.end_of(lane), atoms))
    return rows


def avoidable_sets(net, part, reader):
    """The greatest sets of lanes that some round in the part takes without showing the pattern, as tuples."""
    posts, lanes = part
    if reader.empty:
        return []
    rows = standings_from(net, posts, reader, lanes)
    ahead = closure([(here, there) for here in rows for _, there in rows[here]], list(rows))
    together = []
    for one in rows:
        same = [two for two in rows if two in ahead[one] and one in ahead[two]]
        together.append({lane for two in same for lane, there in rows[two] if there in same})
    return [row for row in sets_of(lanes) if set(row) in together and not any(set(row) < two for two in together)]


def levels(rows, start, wanted, ends):
    """How many lanes a shortest way from start to one of the ends has that takes all wanted lanes, or None."""
    level, seen, count = {(start, frozenset())}, set(), 0
    while level:
        if any(here in ends and taken == set(wanted) for here, taken in level):
            return count
        seen |= level
        level = {(there, taken | ({lane} & set(wanted))) for here, taken in level for lane, there in rows[here]} - seen
        count += 1
    return None


def shortest_run(net, start, ends, wanted, reader):
    """How many lanes a shortest run has that takes all wanted lanes and does not show the pattern, or None."""
    if reader.empty:
        return None
    rows = standings_from(net, [start], reader)
    return levels(rows, (start, ()), wanted, [here for here in rows if here[0] in ends])


def shortest_ring(net, wanted, reader):
    """How many lanes a shortest round has that takes all wanted lanes and does not show the pattern, or None."""
    if reader.empty:
        return None
    rows, found = standings_from(net, net.posts, reader), []
    for here in rows:
        for lane, there in rows[here]:
            # Begun with some lane, wanted or not, the round comes back to where it began.
            count = levels(rows, there, set(wanted) - {lane}, [here])
            if count is not None:
                found.append(count + 1)
    return min(found, default=None)
