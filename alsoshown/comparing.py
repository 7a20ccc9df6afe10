"""Two nets with the same wanted lanes compared: rounds and sure stretches that only one of them has."""

from alsoshown.asked import showing
from alsoshown.errors import NoLane
from alsoshown.longest import greatest_of, single_ring
from alsoshown.rounds import Round


def parting_round(one, two):
    """A round of exactly one of two Asked objects, or None."""
    _check_wanted(one, two)
    if not bool(one):
        return two.round() if bool(two) else None
    if not bool(two):
        return one.round()
    # A walk of one or two lanes that only one part has is shown by no round of the other one.
    walks = (_short_walks(one), _short_walks(two))
    for asked, own, others in ((one, walks[0], walks[1]), (two, walks[1], walks[0])):
        parting = [walk for walk in own if walk not in others]
        if len(parting) > 0:
            return showing(asked, parting[0])
    return None


def parting_stretch(one, two):
    """A shortest sequence of lanes that is a sure stretch of exactly one of two Asked objects, or None."""
    _check_wanted(one, two)
    known = (_known_of(one), _known_of(two))
    if known[0] == known[1]:
        return None
    many = 0
    parting = []
    # Where the rings or the greatest stretches differ, some sure stretches do, so this comes to an end.
    while len(parting) == 0:
        many = many + 1
        own = _stretches(known[0], many)
        others = _stretches(known[1], many)
        parting = [lanes for lanes in own if lanes not in others] + [lanes for lanes in others if lanes not in own]
    return parting[0]


def _check_wanted(one, two):
    """Raise NoLane for the first wanted lane of one of the two that the other one does not want."""
    for own, others in ((one.wanted, two.wanted), (two.wanted, one.wanted)):
        for lane in own:
            if lane not in others:
                raise NoLane(lane)


def _short_walks(asked):
    """The walks of one or two lanes in the part of asked."""
    net = asked.net
    _, lanes = asked.part()
    pairs = [(lane, other) for lane in lanes for other in lanes if net.end_of(lane) == net.start_of(other)]
    return [(lane,) for lane in lanes] + pairs


def _known_of(asked):
    """What tells all sure stretches: the ring of which all rounds are multiples, or the list of the greatest ones."""
    ring = single_ring(asked.net, asked.part())
    return greatest_of(asked) if ring is None else ring


def _stretches(known, many):
    """The different sure stretches of so many lanes, as the keys of a dict."""
    if isinstance(known, Round):
        return {tuple([known[place + k] for k in range(many)]): True for place in range(len(known))}
    return {line[place:place + many]: True for line in known for place in range(len(line) - many + 1)}
