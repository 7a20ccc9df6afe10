"""The shortest rounds."""

from alsoshown.asked import numbers_without
from alsoshown.patterns import pattern_of, unshown
from alsoshown.rounds import Round
from alsoshown.ways import of_numbers, shortest_taking


def shortest(asked, pattern=None):
    """A shortest round of asked, of those that do not show the pattern if there is one, or None."""
    sought = unshown(asked.net.lanes) if pattern is None else pattern_of(pattern)
    leads, numbers, chosen = numbers_without(asked, sought)
    graph = of_numbers(leads, numbers, {number: True for number in chosen})
    first = asked.wanted[0]
    least = None
    for here in graph:
        for lane, there in graph[here]:
            if lane == first:
                # A round takes this lane, so it can be begun with it, and then it comes back to where the lane starts.
                way = shortest_taking(graph, there, asked.wanted[1:], {here: True})
                if least is None or len(way) < len(least):
                    least = way
    return None if least is None else Round([first] + least)
