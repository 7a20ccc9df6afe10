"""Written patterns, read from left to right."""

from alsoshown.errors import BadText
from alsoshown.expressions import ANY, EITHER, NONE, OPTIONAL, REPEATED, THEN, in_order
from alsoshown.names import DIGITS, LETTERS, LONGEST

# A group that is open and has no bar so far; behind its bar, EITHER stands in its place.
GROUP = "group"


def steps_of(text):
    """The steps of the pattern that a written pattern describes."""
    steps = []
    # What is still to be done, the last one first: THEN, EITHER and GROUP.
    waiting = []
    place = 0
    while True:
        while _stands(text, place, "("):
            waiting.append(GROUP)
            place = place + 1
        step, place = _read_atom(text, place)
        steps.append(step)
        place = _end_groups(text, place, steps, waiting)
        if place == len(text) and len(waiting) == 0:
            return tuple(steps)
        place = _go_on(text, place, waiting)


def _stands(text, place, signs):
    """Tell whether one of these signs stands at the place."""
    return place < len(text) and text[place] in signs


def _need(text, place, signs):
    """Raise BadText if none of these signs stands at the place."""
    if not _stands(text, place, signs):
        raise BadText(place)


def _end_of_name(text, place):
    """The place behind the name that begins here."""
    _need(text, place, LETTERS)
    end = place + 1
    while end < place + LONGEST and _stands(text, end, LETTERS + DIGITS):
        end = end + 1
    return end


def _read_atom(text, place):
    """The step of the atom that begins here, and the place behind it."""
    if _stands(text, place, "["):
        return _read_brackets(text, place + 1)
    if _stands(text, place, "."):
        return ((NONE, ()), place + 1)
    end = _end_of_name(text, place)
    return ((ANY, (text[place:end],)), end)


def _read_brackets(text, place):
    """The step of the atom whose names are in brackets, and the place behind them."""
    kind = NONE if _stands(text, place, "^") else ANY
    begin = place + 1 if kind == NONE else place
    end = _end_of_name(text, begin)
    names = [text[begin:end]]
    while _stands(text, end, " "):
        begin = end + 1
        end = _end_of_name(text, begin)
        names.append(text[begin:end])
    _need(text, end, "]")
    return ((kind, in_order(names)), end + 1)


def _end_groups(text, place, steps, waiting):
    """Join the item that ends here to what waits for it, end the groups that end here, and go behind them."""
    _join(steps, waiting)
    while len(waiting) > 0 and _stands(text, place, ")"):
        place = place + 1
        if waiting.pop() == EITHER:
            steps.append((EITHER, ()))
        else:
            # Without a bar, brackets are only there for the sign behind them.
            _need(text, place, "*?")
            steps.append((REPEATED if text[place] == "*" else OPTIONAL, ()))
            place = place + 1
        _join(steps, waiting)
    return place


def _join(steps, waiting):
    """Join the last item to those before it in the same sequence."""
    if len(waiting) > 0 and waiting[-1] == THEN:
        steps.append((waiting.pop(), ()))


def _go_on(text, place, waiting):
    """The place at which the item begins that must follow, after a space or a bar."""
    _need(text, place, " ")
    if len(waiting) > 0 and waiting[-1] == GROUP and _stands(text, place + 1, "|"):
        _need(text, place + 2, " ")
        waiting[-1] = EITHER
        return place + 3
    waiting.append(THEN)
    return place + 1
