"""Checks that several tests share: rounds of Asked objects, and why there are none."""

import unittest

from alsoshown.errors import NoRound
from alsoshown.nets import way_from
from alsoshown.rounds import Round, fits


def expected_no_round(net, wanted):
    """The first pair of wanted lanes without a way, found with way_from; None if there is none."""
    order = [lane for lane in net.lanes if lane in wanted]
    for first in order:
        for second in order:
            if way_from(net, net.end_of(first), net.start_of(second)) is None:
                return first, second
    return None


class AskedCase(unittest.TestCase):
    def no_round(self, asked, operation):
        """Check that an operation raises NoRound with the right pair and a side that parts it."""
        with self.assertRaises(NoRound) as caught:
            operation()
        error, net = caught.exception, asked.net
        self.assertEqual((error.first, error.second), expected_no_round(net, asked.wanted))
        self.assertIsInstance(error.side, tuple)
        self.assertTrue(set(error.side) <= set(net.posts))
        self.assertIn(net.end_of(error.first), error.side)
        self.assertNotIn(net.start_of(error.second), error.side)
        for lane in net.lanes:
            self.assertFalse(net.start_of(lane) in error.side and net.end_of(lane) not in error.side)

    def is_round_of(self, ring, asked):
        """Check that this is a round of asked: it is walked lane by lane."""
        self.assertIsInstance(ring, Round)
        net, lanes = asked.net, ring.lanes
        for k, lane in enumerate(lanes):
            self.assertEqual(net.end_of(lane), net.start_of(lanes[(k + 1) % len(lanes)]))
        self.assertTrue(set(asked.wanted) <= set(lanes))
        self.assertTrue(fits(net, ring))
