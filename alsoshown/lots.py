"""Sets of lanes: which ones every round takes, and which ones are enough to make something sure."""

from alsoshown.asked import avoiding, standings_of
from alsoshown.atoms import places_in
from alsoshown.nets import parts_of
from alsoshown.patterns import pattern_of
from alsoshown.ways import lanes_by_number, numbered


def closed(asked):
    """The lanes that every round of asked takes, in the order of the net."""
    _, lanes = asked.part()
    return tuple([lane for lane in lanes if avoiding(asked, (lane,)) is None])


def wishes(asked):
    """The least sets of closed lanes of asked such that a round that takes them takes all wanted lanes."""
    lanes = closed(asked)
    net = asked.net
    # A set is not enough exactly if some wanted lane can be left out while a round takes the whole set.
    lacking = [inner for wanted in asked.wanted for _, inner in parts_of(net - (wanted,))]
    return _named(lanes, _least_outside(len(lanes), _masks(lanes, lacking)))


def loopholes(asked, pattern):
    """The greatest sets of lanes of the part of asked that some round takes without showing the pattern."""
    masks = _greatest_without(asked, pattern_of(pattern))
    _, lanes = asked.part()
    return _named(lanes, masks)


def settling(asked, pattern):
    """The least sets of lanes of the part of asked such that every round that takes them shows the pattern."""
    masks = _greatest_without(asked, pattern_of(pattern))
    _, lanes = asked.part()
    return _named(lanes, _least_outside(len(lanes), masks))


def _greatest_without(asked, sought):
    """The masks of the greatest sets of lanes of the part that some round takes without showing the pattern."""
    leads = standings_of(asked, sought).leads
    if sought.atoms.empty:
        return []
    _, lanes = asked.part()
    inner = lanes_by_number(leads, numbered(leads))
    masks = [mask for mask in _masks(lanes, list(inner.values())) if mask > 0]
    return [mask for mask in masks if not any([mask != other and mask & other == mask for other in masks])]


def _masks(lanes, rows):
    """The different masks of the rows: bit number k tells whether the lane number k of these lanes is in the row."""
    masks = {}
    for row in rows:
        mask = 0
        for place, lane in enumerate(lanes):
            if lane in row:
                mask = mask | (1 << place)
        masks[mask] = True
    return list(masks)


def _least_outside(many, masks):
    """The least masks of so many bits, not the one without any bit, that are not within one of these masks."""
    bits = [1 << place for place in range(many)]
    within = [False] * (1 << many)
    # The mask without any bit counts as one within, so that it does not keep greater ones from being the least.
    within[0] = True
    for mask in masks:
        within[mask] = True
    for bit in bits:
        for mask in range(1 << many):
            if (mask & bit) == 0 and within[mask | bit]:
                within[mask] = True
    return [mask for mask in range(1 << many)
            if not within[mask] and all([within[mask ^ bit] for bit in bits if (mask & bit) > 0])]


def _named(lanes, masks):
    """The sets of lanes with these masks as tuples, in the order of the places of their lanes."""
    rows = sorted(set([tuple(places_in(mask)) for mask in masks]))
    return [tuple([lanes[place] for place in row]) for row in rows]
