"""Sets of lanes: which ones every round takes, and which ones are enough to make something sure."""

from alsoshown.asked import avoiding, standings_of
from alsoshown.atoms import places_in
from alsoshown.nets import parts_of
from alsoshown.patterns import pattern_of
from alsoshown.subsets import least_outside
from alsoshown.ways import lanes_by_number, numbered


def closed(asked):
    """The lanes that every round of asked takes, in the order of the net."""
    _, lanes = asked.part()
    return tuple([lane for lane in lanes if avoiding(asked, (lane,)) is None])


def wishes(asked):
    """The least sets of closed lanes of asked such that a round that takes them takes all wanted lanes."""
    lanes = closed(asked)
    net = asked.net
    # A set is not enough exactly if some wanted lane can be left out while a round takes the whole set.
    lacking = [inner for wanted in asked.wanted for _, inner in parts_of(net - (wanted,))]
    return _named(lanes, least_outside(len(lanes), _masks(lanes, lacking)))


def loopholes(asked, pattern):
    """The greatest sets of lanes of the part of asked that some round takes without showing the pattern."""
    lanes, masks = _taken_without(asked, pattern_of(pattern))
    greatest = [mask for mask in masks if not any([mask != other and mask & other == mask for other in masks])]
    return _named(lanes, greatest)


def settling(asked, pattern):
    """The least sets of lanes of the part of asked such that every round that takes them shows the pattern."""
    lanes, masks = _taken_without(asked, pattern_of(pattern))
    return _named(lanes, least_outside(len(lanes), masks))


def _taken_without(asked, sought):
    """The lanes of the part, and masks of sets of them that some round takes without showing the pattern.

    The greatest ones are among them.
    """
    _, lanes = asked.part()
    if sought.atoms.empty:
        return (lanes, [])
    leads = standings_of(asked, sought).leads
    inner = lanes_by_number(leads, numbered(leads))
    return (lanes, [mask for mask in _masks(lanes, list(inner.values())) if mask > 0])


def _masks(lanes, rows):
    """The different masks of the rows: bit number k tells whether the lane number k of these lanes is in the row."""
    masks = {}
    for row in rows:
        mask = 0
        for place, lane in enumerate(lanes):
            if lane in row:
                mask = mask | (1 << place)
        masks[mask] = True
    return list(masks)


def _named(lanes, masks):
    """The sets of lanes with these masks as tuples, in the order of the places of their lanes."""
    rows = sorted(set([tuple(places_in(mask)) for mask in masks]))
    return [tuple([lanes[place] for place in row]) for row in rows]
