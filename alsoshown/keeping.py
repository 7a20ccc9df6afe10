"""What watched nets and books have in common: patterns with names, and what they are on a net with wanted lanes."""

from alsoshown.asked import Asked
from alsoshown.errors import EmptyWord, NoPattern
from alsoshown.longest import greatest_of, single_ring
from alsoshown.names import check_name
from alsoshown.patterns import pattern_of


def with_pattern(patterns, name, pattern):
    """A new dict of patterns that has this one under the name."""
    check_name(name)
    sought = pattern_of(pattern)
    if sought.atoms.empty:
        raise EmptyWord()
    return {**patterns, name: sought}


def pattern_under(patterns, name):
    """The pattern of this name."""
    if not isinstance(name, str) or name not in patterns:
        raise NoPattern(name)
    return patterns[name]


def in_order_of(net, wanted):
    """The different wanted lanes in the order of the net."""
    return tuple([lane for lane in net.lanes if lane in wanted])


def asked_of(net, wanted):
    """The net with these wanted lanes, or None if no lane is wanted or no round takes them all."""
    if len(wanted) == 0:
        return None
    asked = Asked(net, wanted)
    return asked if bool(asked) else None


def state_of(asked, pattern):
    """What the pattern is on the net with wanted lanes; None stands for no rounds."""
    return "none" if asked is None else asked(pattern)


def sure_of(asked):
    """The list of the greatest sure stretches, or None if all rounds are multiples of one."""
    if asked is None:
        return []
    if single_ring(asked.net, asked.part()) is not None:
        return None
    return greatest_of(asked)
