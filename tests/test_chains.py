"""What points 38 and 37 need: chains of nodes, and nodes of which none comes behind another one."""

import itertools
import random
import unittest

from alsoshown.chains import chains_of, unrelated_of


def random_order(source, many, part):
    """A random order of so many nodes: for each one the list of those behind it."""
    names = [f"n{k}" for k in range(many)]
    behind = {name: set() for name in names}
    for one in range(many - 1, -1, -1):
        for two in range(one + 1, many):
            if source.random() < part:
                behind[names[one]] |= {names[two]} | behind[names[two]]
    source.shuffle(names)
    return {name: [other for other in names if other in behind[name]] for name in names}


class ChainsTest(unittest.TestCase):
    def test_no_nodes(self):
        self.assertEqual((chains_of({}), unrelated_of({})), ([], []))

    def test_random_orders(self):
        source = random.Random(390)
        for number in range(300):
            follow = random_order(source, source.randint(1, 9), (number % 10) / 14)
            chains, separate = chains_of(follow), unrelated_of(follow)
            self.assertEqual(sorted(sum(chains, [])), sorted(follow))
            for chain in chains:
                for one, two in itertools.combinations(chain, 2):
                    self.assertIn(two, follow[one])
            self.assertEqual(len(set(separate)), len(separate))
            for one, two in itertools.permutations(separate, 2):
                self.assertNotIn(two, follow[one])
            # As many as the chains: so there are no fewer chains, and no more nodes of which none follows another one.
            self.assertEqual(len(separate), len(chains))

    def test_large_orders(self):
        source = random.Random(391)
        for part in (0, 0.02, 0.1, 0.3, 1):
            follow = random_order(source, 40, part)
            self.assertEqual(len(unrelated_of(follow)), len(chains_of(follow)))


if __name__ == "__main__":
    unittest.main()
