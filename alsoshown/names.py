"""What is a name and what is an integer, for all modules."""

from alsoshown.errors import BadName, EmptyWalk

LETTERS = "abcdefghijklmnopqrstuvwxyz"
DIGITS = "0123456789"
LONGEST = 8


def is_name(value):
    """Tell whether the value is a name."""
    if not isinstance(value, str) or not 1 <= len(value) <= LONGEST:
        return False
    return value[0] in LETTERS and all([sign in LETTERS + DIGITS for sign in value])


def is_integer(value):
    """Tell whether the value is an integer."""
    # True and False are integers for Python, but not for this package.
    return isinstance(value, int) and not isinstance(value, bool)


def check_name(value):
    """Raise BadName if the value is not a name."""
    if not is_name(value):
        raise BadName(value)


def check_sequence(names):
    """Raise EmptyWalk or BadName if these are not one or more names."""
    if len(names) == 0:
        raise EmptyWalk()
    for name in names:
        check_name(name)
