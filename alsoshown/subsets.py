"""Which sets are within one of some others, for all sets of a few things at once.

A set is a bit mask here. A table is a list of rows, which are integers: with rows of 2 ** low bits, the bit number
mask & (2 ** low - 1) of the row number mask >> low stands for this mask. So one step on a row is one on many sets.
"""

from alsoshown.atoms import places_in

# All masks could stand in a single row, but it would be a number of thousands of digits; a row of this size has 617.
LOW = 11


def least_outside(many, masks):
    """The least masks of so many bits, not the one without any bit, that are not within one of these masks."""
    low = many if many < LOW else LOW
    every = (1 << (1 << low)) - 1
    moves = _moves(low, every)
    rows = _rows_within(many, low, moves, masks)
    found = []
    for number, row in enumerate(rows):
        # A mask outside is a least one if it is within one of them as soon as any one of its bits is taken away.
        least = every ^ row
        for shift, lacking in moves:
            least = least & (lacking | ((row & lacking) << shift))
        for place in places_in(number):
            least = least & rows[number ^ (1 << place)]
        for mask in places_in(least):
            found.append((number << low) | mask)
    return found


def _moves(low, every):
    """For each bit of the masks in a row how far behind a mask without it the one with it stands, and those without."""
    moves = []
    for place in range(low):
        shift = 1 << place
        # The masks that lack the bit are every second run of so many, beginning with the first one.
        moves.append((shift, every // ((1 << shift) + 1)))
    return moves


def _rows_within(many, low, moves, masks):
    """The table of the masks of so many bits that are within one of these masks."""
    rows = [0] * (1 << (many - low))
    # The mask without any bit counts as one within, so that it does not keep greater ones from being the least.
    rows[0] = 1
    for mask in masks:
        number = mask >> low
        rows[number] = rows[number] | (1 << (mask ^ (number << low)))
    for shift, lacking in moves:
        rows = [row | ((row >> shift) & lacking) for row in rows]
    for place in range(many - low):
        bit = 1 << place
        rows = [row | rows[number | bit] for number, row in enumerate(rows)]
    return rows
