"""What points 30 and 31 need: the least sets that are not within one of some others."""

import itertools
import random
import unittest

from alsoshown.subsets import least_outside


def searched(many, masks):
    """The same, found by a look at every mask."""
    outside = {mask for mask in range(1, 1 << many) if not any(mask & other == mask for other in masks)}
    return [mask for mask in sorted(outside) if not any(mask ^ 1 << place in outside for place in range(many)
                                                         if mask >> place & 1)]


def of_size(many, size):
    """All masks of so many bits of which so many are set."""
    return [sum(1 << place for place in row) for row in itertools.combinations(range(many), size)]


class SubsetsTest(unittest.TestCase):
    def test_no_masks(self):
        for many in range(17):
            for masks in ([], [0]):
                self.assertEqual(least_outside(many, masks), [1 << place for place in range(many)])

    def test_the_mask_of_all_bits(self):
        for many in range(17):
            every = (1 << many) - 1
            self.assertEqual(least_outside(many, [every]), [])
            self.assertEqual(least_outside(many, [every >> 1, every]), [])

    def test_one_bit_less_than_all(self):
        for many in range(2, 17):
            every = (1 << many) - 1
            for place in range(many):
                self.assertEqual(least_outside(many, [every ^ 1 << place]), [1 << place])
            self.assertEqual(least_outside(many, [every ^ 1 << place for place in range(many)]), [every])

    def test_all_masks_of_one_size(self):
        for many in (3, 6, 11, 12, 14):
            for size in range(many):
                self.assertEqual(sorted(least_outside(many, of_size(many, size))), sorted(of_size(many, size + 1)))

    def test_random_masks(self):
        source = random.Random(315)
        for number in range(400):
            # Rows of masks have 11 bits at most, so numbers of bits on both sides of this are tried.
            many = source.choice((1, 2, 3, 4, 5, 7, 10, 11, 12)) if number % 20 else 13
            masks = []
            for _ in range(source.randint(1, 8)):
                masks.append(source.randrange(1 << many) | source.randrange(1 << many))
            before = list(masks)
            self.assertEqual(sorted(least_outside(many, masks)), searched(many, masks))
            self.assertEqual(masks, before)


if __name__ == "__main__":
    unittest.main()
