"""The errors of the package.

No class calls the constructor of its base class: Python itself keeps the
arguments of an error for its message, so they may be any objects.
"""


class ShowError(ValueError):
    """Every error of the package is one of these."""


class BadName(ShowError):
    """This is not a name."""

    def __init__(self, name):
        self.name = name


class NameTaken(ShowError):
    """There is already something of this name."""

    def __init__(self, name):
        self.name = name


class NoPost(ShowError):
    """There is no post of this name."""

    def __init__(self, name):
        self.name = name


class NoLane(ShowError):
    """There is no lane of this name."""

    def __init__(self, name):
        self.name = name


class Clash(ShowError):
    """A lane of this name leads from or to different posts in two nets."""

    def __init__(self, name):
        self.name = name


class NoPattern(ShowError):
    """There is no pattern of this name."""

    def __init__(self, name):
        self.name = name


class EmptyWalk(ShowError):
    """A sequence has no lanes."""


class EmptyWord(ShowError):
    """A pattern has the empty word."""


class NotWalk(ShowError):
    """A sequence of lanes is not a walk of the net."""


class NotOnePart(ShowError):
    """The posts and lanes of a net do not all belong to one part."""


class NothingWanted(ShowError):
    """There are no wanted lanes."""


class NothingBack(ShowError):
    """There are not so many deeds to undo."""


class BadWalk(ShowError):
    """The lane at this place does not start where the one before ends."""

    def __init__(self, place):
        self.place = place


class BadText(ShowError):
    """The text is not a written pattern from this place on."""

    def __init__(self, place):
        self.place = place


class BadDeed(ShowError):
    """What stands at this place is not a deed."""

    def __init__(self, place):
        self.place = place


class BadNumber(ShowError):
    """This is not an integer that may stand here."""

    def __init__(self, value):
        self.value = value


class NoRound(ShowError):
    """No way leads from the end of one wanted lane to the start of another."""

    def __init__(self, first, second, side):
        self.first = first
        self.second = second
        self.side = side


class OneRing(ShowError):
    """All rounds are multiples of this one."""

    def __init__(self, ring):
        self.ring = ring


class NotSure(ShowError):
    """This round does not show the sequence."""

    def __init__(self, ring):
        self.ring = ring


class NoRun(ShowError):
    """No run takes the lane of this name."""

    def __init__(self, name):
        self.name = name


class SameLane(ShowError):
    """The two lanes are both the one of this name."""

    def __init__(self, name):
        self.name = name


class Brought(ShowError):
    """The lane of this name brings the pattern."""

    def __init__(self, name):
        self.name = name


class StillWanted(ShowError):
    """The lane of this name is wanted."""

    def __init__(self, name):
        self.name = name


class NotWanted(ShowError):
    """The lane of this name is not wanted."""

    def __init__(self, name):
        self.name = name


class BadWord(ShowError):
    """This is not a word that may stand here."""

    def __init__(self, word):
        self.word = word


class BadLine(ShowError):
    """The line of this number cannot be read."""

    def __init__(self, line):
        self.line = line
