"""Patterns as steps, in the order in which a stack makes them.

The step of an atom puts a pattern on the stack; each other step takes one or two patterns from it and puts the one
that it makes of them in their place. So a pattern is gone through from left to right, however deep it is.
"""

# The kinds of steps. A step is a tuple of its kind and a tuple of names, which is empty for all but the atoms.
ANY = "any"
NONE = "none"
THEN = "then"
EITHER = "either"
REPEATED = "repeated"
OPTIONAL = "optional"


def is_atom(step):
    """Tell whether the step is the one of an atom."""
    return step[0] in (ANY, NONE)


def is_join(step):
    """Tell whether the step makes one pattern of two."""
    return step[0] in (THEN, EITHER)


def in_order(names):
    """The different names as a tuple in ascending order."""
    return tuple(sorted(set(names)))


def named_by(steps):
    """The names that occur in the steps."""
    return in_order([name for _, names in steps for name in names])


def text_of(steps):
    """The text of the pattern that the steps make."""
    stack = []
    for step in steps:
        if is_atom(step):
            stack.append(_text_of_atom(step))
        elif is_join(step):
            right = stack.pop()
            left = stack.pop()
            stack.append(f"{left} {right}" if step[0] == THEN else f"({left} | {right})")
        else:
            inner = stack.pop()
            stack.append(f"({inner})*" if step[0] == REPEATED else f"({inner})?")
    return stack[0]


def _text_of_atom(step):
    """The text of one atom."""
    kind, names = step
    inner = " ".join(names)
    if kind == NONE:
        return f"[^{inner}]" if len(names) > 0 else "."
    return inner if len(names) == 1 else f"[{inner}]"


def opposite(steps):
    """The steps of the pattern that has the same words in the opposite order."""
    stack = []
    for step in steps:
        if is_atom(step):
            stack.append((step,))
        elif is_join(step):
            right = stack.pop()
            left = stack.pop()
            both = right + left if step[0] == THEN else left + right
            stack.append(both + (step,))
        else:
            inner = stack.pop()
            stack.append(inner + (step,))
    return stack[0]
