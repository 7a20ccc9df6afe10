"""The greatest sequences of lanes that every round shows."""

from alsoshown.asked import avoiding, graph_of_part
from alsoshown.errors import NotOnePart, NotSure, NotWalk, OneRing
from alsoshown.names import check_sequence
from alsoshown.nets import parts_of
from alsoshown.rounds import Round
from alsoshown.ways import way_taking, way_until


def longest(asked):
    """The greatest sure stretches of asked, in ascending order."""
    found = greatest_of(asked)
    for stretch in found:
        yield stretch


def grown(asked, stretch):
    """The greatest sure stretches that contain a sequence of lanes, in ascending order."""
    ring = avoiding(asked, stretch)
    if ring is not None:
        raise NotSure(ring)
    return [greater for greater in greatest_of(asked) if _contains(greater, stretch)]


def greatest_of(asked):
    """The list of the greatest sure stretches of asked, in ascending order."""
    _refuse_one_ring(asked.net, asked.part())
    # Each sure stretch is shown by every round, so it is enough to look through a single one.
    found = sorted(set(_sure_along(asked, asked.round())))
    return [one for one in found if not any([len(two) > len(one) and _contains(two, one) for two in found])]


def single_ring(net, part):
    """The shortest round of the part if all its rounds are multiples of this one, otherwise None."""
    posts, lanes = part
    if len(lanes) != len(posts):
        return None
    return Round(way_taking(graph_of_part(net, part), posts[0], posts[0], lanes))


def _refuse_one_ring(net, part):
    """Raise OneRing if all rounds of the part are multiples of one."""
    ring = single_ring(net, part)
    if ring is not None:
        raise OneRing(ring)


def _sure_along(asked, ring):
    """For each place of the ring the longest sure stretch that begins there, without those within the one before."""
    found = []
    end = 0
    for place in range(len(ring)):
        # What is within a sure stretch is sure, so the end never goes back.
        before = end if end > place else place
        end = before
        while avoiding(asked, _along(ring, place, end + 1)) is None:
            end = end + 1
        if end > before:
            found.append(_along(ring, place, end))
    return found


def _along(ring, place, end):
    """The lanes of the ring from one place until before another one."""
    return tuple([ring[k] for k in range(place, end)])


def _contains(greater, stretch):
    """Tell whether these consecutive lanes are somewhere in the greater stretch."""
    # Names contain no spaces, so the texts tell the same as the tuples, and faster.
    return " ".join(["", *stretch, ""]) in " ".join(["", *greater, ""])


def detour(net, stretch):
    """A detour of the stretch in a net of which all lanes are wanted, or None."""
    check_sequence(stretch)
    part = (net.posts, net.lanes)
    if parts_of(net) != [part]:
        raise NotOnePart()
    _refuse_one_ring(net, part)
    if not _is_walk(net, stretch):
        raise NotWalk()
    first_places = {}
    last_places = {}
    for place, pair in enumerate(zip(stretch, stretch[1:])):
        first_places.setdefault(pair, place)
        last_places[pair] = place
    # Of the places with the same two lanes, the last one to leave and the first one to come back are enough.
    for left in last_places:
        for met in first_places:
            j = last_places[left]
            i = first_places[met] + 1
            if i <= j + 1:
                way = _way_aside(net, left, met)
                if way is not None:
                    return (j, i, tuple(way))
    return None


def _is_walk(net, lanes):
    """Tell whether these are lanes of the net, each of which starts where the one before ends."""
    if not all([lane in net for lane in lanes]):
        return False
    return all([net.end_of(one) == net.start_of(two) for one, two in zip(lanes, lanes[1:])])


def _way_aside(net, left, met):
    """A shortest way that leaves the stretch between the lanes of left, and meets it between the lanes of met.

    It passes no post twice, so it could take the second lane of left only at its beginning, and the first one of met
    only at its end; it must not do so.
    """
    aside = net - (left[1], met[0])
    leads = graph_of_part(aside, (aside.posts, aside.lanes))
    found = way_until(leads, net.end_of(left[0]), (), net.end_of(met[0]))
    return None if found is None else found[0]
