"""Checks that several tests share: rounds of Asked objects, why there are none, and runs of courses."""

import unittest

from alsoshown.courses import Course
from alsoshown.errors import NoRound
from alsoshown.nets import way_from
from alsoshown.rounds import Round, fits
from making import random_net


def expected_no_round(net, wanted):
    """The first pair of wanted lanes without a way, found with way_from; None if there is none."""
    order = [lane for lane in net.lanes if lane in wanted]
    for first in order:
        for second in order:
            if way_from(net, net.end_of(first), net.start_of(second)) is None:
                return first, second
    return None


class AskedCase(unittest.TestCase):
    def no_round(self, asked, operation):
        """Check that an operation raises NoRound with the right pair and a side that parts it."""
        with self.assertRaises(NoRound) as caught:
            operation()
        error, net = caught.exception, asked.net
        self.assertEqual((error.first, error.second), expected_no_round(net, asked.wanted))
        self.assertIsInstance(error.side, tuple)
        self.assertTrue(set(error.side) <= set(net.posts))
        self.assertIn(net.end_of(error.first), error.side)
        self.assertNotIn(net.start_of(error.second), error.side)
        for lane in net.lanes:
            self.assertFalse(net.start_of(lane) in error.side and net.end_of(lane) not in error.side)

    def is_round_of(self, ring, asked):
        """Check that this is a round of asked: it is walked lane by lane."""
        self.assertIsInstance(ring, Round)
        net, lanes = asked.net, ring.lanes
        for k, lane in enumerate(lanes):
            self.assertEqual(net.end_of(lane), net.start_of(lanes[(k + 1) % len(lanes)]))
        self.assertTrue(set(asked.wanted) <= set(lanes))
        self.assertTrue(fits(net, ring))


class CourseCase(unittest.TestCase):
    def is_run_of(self, run, course, taking=(), reader=None):
        """Check that this is a run of the course, walked lane by lane, with these lanes and without the pattern."""
        self.assertIsInstance(run, list)
        net, here = course.net, course.start
        for lane in run:
            self.assertEqual(net.start_of(lane), here)
            here = net.end_of(lane)
        self.assertIn(here, course.ends)
        self.assertTrue(set(taking) <= set(run))
        self.assertIn(run, course)
        if reader is not None:
            self.assertFalse(reader.shown_along(run))

    def raises(self, error, name, operation, *arguments):
        """Check that an operation raises an error that names this."""
        with self.assertRaises(error) as caught:
            operation(*arguments)
        self.assertEqual(caught.exception.name, name)


def random_course(source, posts, lanes):
    """A course on a random net with up to three ends, often without a way to some post."""
    net = random_net(source, posts, lanes, source.random() < 0.4)
    return Course(net, source.choice(net.posts), source.sample(net.posts, source.randint(1, min(3, posts))))
