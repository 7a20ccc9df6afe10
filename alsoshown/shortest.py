"""The shortest rounds."""

from alsoshown.asked import numbers_without
from alsoshown.patterns import pattern_of, unshown
from alsoshown.rounds import Round
from alsoshown.ways import of_numbers, shortest_taking


def shortest(asked, pattern=None):
    """A shortest round of asked, of those that do not show the pattern if there is one, or None."""
    sought = unshown(asked.net.lanes) if pattern is None else pattern_of(pattern)
    leads, numbers, chosen = numbers_without(asked, sought)
    graph = of_numbers(leads, numbers, {number: True for number in chosen})
    first = _rarest(graph, asked.wanted)
    others = [lane for lane in asked.wanted if lane != first]
    least = None
    # A round takes this lane, so it can be begun with it, and then it has to come back to where the lane starts.
    for here, there in _taking(graph, first):
        way = shortest_taking(graph, there, others, {here: True})
        if least is None or len(way) < len(least):
            least = way
    return None if least is None else Round([first] + least)


def _rarest(graph, lanes):
    """The one of these lanes that leads from as few nodes as possible."""
    rarest = lanes[0]
    for lane in lanes:
        if len(_taking(graph, lane)) < len(_taking(graph, rarest)):
            rarest = lane
    return rarest


def _taking(graph, lane):
    """The pairs of a node from which the lane leads and the node to which it leads from there."""
    return [(here, there) for here in graph for other, there in graph[here] if other == lane]
