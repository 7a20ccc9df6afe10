"""Patterns of the tests as trees; their words, texts and links are worked out here, apart from the program.

A tree is one of ("any", names), ("none", names), ("then", p, q), ("or", p, q), ("many", p) and ("maybe", p).
"""

import itertools

from alsoshown.patterns import any_of, none_of, optional, repeated


def built(tree):
    """The pattern of the program."""
    kind, inner = tree[0], tree[1:]
    if kind == "any":
        return any_of(*inner[0])
    if kind == "none":
        return none_of(*inner[0])
    if kind == "then":
        return built(inner[0]) + built(inner[1])
    if kind == "or":
        return built(inner[0]) | built(inner[1])
    return repeated(built(inner[0])) if kind == "many" else optional(built(inner[0]))


def walk(names):
    """The tree of the walk of these names."""
    tree = ("any", (names[0],))
    for name in names[1:]:
        tree = ("then", tree, ("any", (name,)))
    return tree


def turned(tree):
    """The tree with the words in the opposite order, as point 13 says it."""
    kind = tree[0]
    if kind in ("any", "none"):
        return tree
    inner = [turned(side) for side in tree[1:]]
    return (kind, *(inner[::-1] if kind == "then" else inner))


def text(tree):
    """The text, as point 15 says it."""
    kind = tree[0]
    if kind in ("any", "none"):
        names = sorted(set(tree[1]))
        if kind == "any":
            return names[0] if len(names) == 1 else "[" + " ".join(names) + "]"
        return "[^" + " ".join(names) + "]" if names else "."
    inner = [text(side) for side in tree[1:]]
    return {"then": "{} {}", "or": "({} | {})", "many": "({})*", "maybe": "({})?"}[kind].format(*inner)


def names_in(tree):
    if tree[0] in ("any", "none"):
        return set(tree[1])
    return set().union(*[names_in(side) for side in tree[1:]])


def takes(atom, lane):
    return (lane in atom[1]) == (atom[0] == "any")


def words(tree, lanes, most):
    """The set of the words of at most so many lanes, all of them among these lanes."""
    kind = tree[0]
    if kind in ("any", "none"):
        return {(lane,) for lane in lanes if takes(tree, lane)} if most > 0 else set()
    one = words(tree[1], lanes, most)
    if kind == "or":
        return one | words(tree[2], lanes, most)
    if kind == "maybe":
        return one | {()}
    if kind == "then":
        two = words(tree[2], lanes, most)
        return {a + b for a in one for b in two if len(a + b) <= most}
    found, last = {()}, {()}
    while last:
        last = {a + b for a in last for b in one if len(a + b) <= most} - found
        found |= last
    return found


def atoms_of(tree):
    """The atoms from left to right."""
    if tree[0] in ("any", "none"):
        return [tree]
    return [atom for side in tree[1:] for atom in atoms_of(side)]


def links(tree, number=0):
    """Whether there is the empty word, the sets first and last, and the pairs (x, y) of which y follows x."""
    kind = tree[0]
    if kind in ("any", "none"):
        return False, {number}, {number}, set()
    empty, first, last, follow = links(tree[1], number)
    if kind == "maybe":
        return True, first, last, follow
    if kind == "many":
        return True, first, last, follow | {(x, y) for x in last for y in first}
    empty2, first2, last2, follow2 = links(tree[2], number + len(atoms_of(tree[1])))
    if kind == "or":
        return empty or empty2, first | first2, last | last2, follow | follow2
    follow = follow | follow2 | {(x, y) for x in last for y in first2}
    return empty and empty2, first | (first2 if empty else set()), last2 | (last if empty2 else set()), follow


def sequences(lanes="abcd", most=4):
    """All sequences of at most so many lanes."""
    for many in range(most + 1):
        yield from itertools.product(lanes, repeat=many)


def words_of(pattern, lanes="abcd", most=4):
    """The words of a pattern of the program among these sequences."""
    return {word for word in sequences(lanes, most) if word in pattern}


class Reader:
    """Goes along lanes as point 24 says it."""

    def __init__(self, tree):
        self.atoms = atoms_of(tree)
        self.empty, self.first, self.last, self.follow = links(tree)

    def step(self, atoms, lane):
        """The atoms to which a lane leads, and whether it completes the pattern."""
        ahead = self.first | {y for x, y in self.follow if x in atoms}
        there = {y for y in ahead if takes(self.atoms[y], lane)}
        return tuple(sorted(there)), bool(there & self.last)

    def shown_along(self, lanes):
        """Whether these lanes, gone once, show the pattern."""
        atoms = ()
        for lane in lanes:
            atoms, completed = self.step(atoms, lane)
            if completed:
                return True
        return self.empty

    def shown_by(self, lanes):
        """Whether the round of these lanes shows the pattern."""
        if self.empty:
            return True
        seen, place, atoms = set(), 0, ()
        while (place, atoms) not in seen:
            seen.add((place, atoms))
            atoms, completed = self.step(atoms, lanes[place])
            if completed:
                return True
            place = (place + 1) % len(lanes)
        return False


def random_tree(source, names, atoms):
    """A tree with so many atoms."""
    if source.random() < 0.25:
        return (source.choice(["many", "maybe"]), random_tree(source, names, atoms))
    if atoms == 1:
        kind = source.choice(["any", "any", "none"])
        many = source.randint(1 if kind == "any" else 0, min(3, len(names)))
        return (kind, tuple(source.sample(names, many)))
    left = source.randint(1, atoms - 1)
    kind = source.choice(["then", "then", "or"])
    return (kind, random_tree(source, names, left), random_tree(source, names, atoms - left))
