"""Points 46 and 47: watched nets, their wanted lanes and patterns, and the states of these."""

import unittest

from alsoshown.errors import BadName, EmptyWalk, EmptyWord, NoLane, NoPattern
from alsoshown.patterns import Pattern, any_of, none_of, optional, repeated, walk_of
from alsoshown.watching import Watch
from making import net_of, ring_net, rows_of

NET = net_of("u v w", "c v u, a u u, b u v, d w w")
NO_NAMES = ["", "A", "1", "a b", "abcdefghi", None, 1, True, ("a",), ["a"], {"a": 1}, b"a"]


class WatchCase(unittest.TestCase):
    def raises(self, error, name, operation):
        """Check that an operation raises an error that names this."""
        with self.assertRaises(error) as caught:
            operation()
        self.assertEqual(caught.exception.name, name)

    def assign(self, watch, wanted):
        watch.wanted = wanted

    def keep(self, watch, name, pattern):
        watch[name] = pattern


class WantedTest(WatchCase):
    def test_making(self):
        watch = Watch(NET)
        self.assertEqual((rows_of(watch.net), watch.wanted, watch.names, watch.told()), (rows_of(NET), (), (), []))
        for wanted, expected in (((), ()), (("b", "c", "b"), ("c", "b")), (["d", "a"], ("a", "d"))):
            self.assertEqual(Watch(NET, wanted).wanted, expected)
            self.assertIsInstance(Watch(NET, wanted).wanted, tuple)

    def test_strangers(self):
        for wanted, name in ((("a", "x", "y"), "x"), (["u"], "u"), (("",), ""), (("A", "b"), "A")):
            self.raises(NoLane, name, lambda: Watch(NET, wanted))
            watch = Watch(NET, ("b",))
            self.raises(NoLane, name, lambda: watch.wish(wanted))
            self.raises(NoLane, name, lambda: self.assign(watch, wanted))
            self.assertEqual(watch.wanted, ("b",))

    def test_assigned_and_wished(self):
        for change in (lambda watch, wanted: watch.wish(wanted), self.assign):
            watch = Watch(NET, ("a",))
            for wanted, expected in ((["b", "c", "b"], ("c", "b")), ((), ()), (("d",), ("d",)), ([], ()),
                                     (NET.lanes, NET.lanes)):
                change(watch, wanted)
                self.assertEqual(watch.wanted, expected)
                self.assertIsInstance(watch.wanted, tuple)
        self.assertIsNone(Watch(NET).wish(("a",)))

    def test_what_was_passed_may_be_changed_afterwards(self):
        net, wanted = NET.copy(), ["b"]
        watch = Watch(net, wanted)
        net.cut("c")
        wanted.append("a")
        self.assertEqual((rows_of(watch.net), watch.wanted), (rows_of(NET), ("b",)))
        self.assign(watch, wanted)
        wanted.clear()
        self.assertEqual(watch.wanted, ("a", "b"))
        wished = ["d"]
        watch.wish(wished)
        wished.append("x")
        self.assertEqual((watch.wanted, wished), (("d",), ["d", "x"]))

    def test_the_net_that_is_returned_is_a_copy(self):
        watch = Watch(NET)
        watch.net.cut("a")
        watch.net.post("x")
        self.assertEqual(rows_of(watch.net), rows_of(NET))
        self.assertIsNot(watch.net, watch.net)

    def test_the_net_cannot_be_assigned(self):
        watch = Watch(NET)
        for attribute in ("net", "names"):
            with self.assertRaises(AttributeError):
                setattr(watch, attribute, NET)


class PatternsTest(WatchCase):
    def test_patterns_are_kept(self):
        watch = Watch(NET)
        for name, pattern, text in (("x", any_of("a", "b"), "[a b]"), ("y2", ("b", "c"), "b c"), ("a", ["x"], "x"),
                                    ("abcdefgh", any_of("a") + repeated(none_of()), "a (.)*")):
            watch[name] = pattern
            self.assertIsInstance(watch[name], Pattern)
            self.assertEqual(watch[name].text, text)
            self.assertIs(name in watch, True)
        self.assertEqual((watch.names, len(watch)), (("x", "y2", "a", "abcdefgh"), 4))
        self.assertIsInstance(watch.names, tuple)

    def test_set_again(self):
        watch = Watch(NET)
        for name in "zya":
            watch[name] = (name,)
        watch["y"] = any_of("b")
        watch["z"] = ["c", "c"]
        self.assertEqual((watch.names, len(watch)), (("z", "y", "a"), 3))
        self.assertEqual([watch[name].text for name in watch.names], ["c c", "b", "a"])

    def test_a_list_that_is_changed_afterwards(self):
        watch, lanes = Watch(NET), ["b", "c"]
        watch["x"] = lanes
        lanes.append("b")
        self.assertEqual((watch["x"].text, lanes), ("b c", ["b", "c", "b"]))

    def test_names_that_are_none(self):
        watch = Watch(NET)
        for wrong in NO_NAMES:
            # What is no name comes before what is no pattern, and before the empty word.
            for pattern in (any_of("a"), (), ("A",), optional(any_of("a"))):
                self.raises(BadName, wrong, lambda: self.keep(watch, wrong, pattern))
        self.assertEqual((watch.names, len(watch)), ((), 0))

    def test_patterns_that_are_refused(self):
        watch = Watch(NET)
        watch["x"] = any_of("a")
        for name in "xy":
            for lanes in ((), []):
                with self.assertRaises(EmptyWalk):
                    watch[name] = lanes
            self.raises(BadName, "B", lambda: self.keep(watch, name, ("a", "B", 1)))
            self.raises(BadName, 1, lambda: self.keep(watch, name, [1]))
            for pattern in (optional(any_of("a")), repeated(none_of()),
                            repeated(any_of("a")) + optional(walk_of("b", "c")),
                            any_of("a") | optional(any_of("b"))):
                with self.assertRaises(EmptyWord):
                    watch[name] = pattern
        self.assertEqual((watch.names, watch["x"].text), (("x",), "a"))

    def test_names_of_no_pattern(self):
        watch = Watch(NET)
        watch["x"] = any_of("a")
        for name in ("y", "", "X", "a", "xx", "u"):
            self.raises(NoPattern, name, lambda: watch[name])
            self.raises(NoPattern, name, lambda: watch.state(name))
            self.assertIs(name in watch, False)

    def test_what_is_in(self):
        watch = Watch(NET)
        watch["x"] = any_of("a")
        for wrong in (None, 0, 1, True, ("x",), ["x"], {"x": 1}, {"x"}, b"x", any_of("a"), watch, NET, 1.5):
            self.assertIs(wrong in watch, False)
        self.assertIs("x" in watch, True)

    def test_a_watched_net_is_not_iterated_over(self):
        with self.assertRaises(TypeError):
            list(Watch(NET))


class StatesTest(WatchCase):
    def setUp(self):
        self.watch = Watch(NET, ("b",))
        for name, pattern in (("one", ("a",)), ("two", ("b", "c")), ("three", ("b", "b")),
                              ("four", any_of("x") | any_of("c"))):
            self.watch[name] = pattern

    def test_by_hand(self):
        watch = self.watch
        for wanted, states in ((("b",), "open sure never sure"), (("a",), "sure open never open"),
                               (["a", "c"], "sure sure never sure"),
                               (("d",), "never never never never"), ((), "none none none none"),
                               (("a", "d"), "none none none none")):
            watch.wanted = wanted
            expected = dict(zip(("one", "two", "three", "four"), states.split()))
            self.assertEqual(watch.states(), expected)
            self.assertEqual({name: watch.state(name) for name in watch.names}, expected)

    def test_no_patterns(self):
        self.assertEqual(Watch(NET, ("b",)).states(), {})
        self.assertEqual(Watch(net_of("")).states(), {})

    def test_what_is_returned_is_new(self):
        self.watch.states().clear()
        self.watch.sure().clear()
        self.watch.told().append("x")
        self.assertEqual((len(self.watch.states()), self.watch.sure(), self.watch.told()), (4, [("b", "c")], []))

    def test_no_name_comes_before_no_rounds(self):
        self.watch.wanted = ("a", "d")
        self.raises(NoPattern, "five", lambda: self.watch.state("five"))

    def test_sure(self):
        for wanted, expected in ((("b",), [("b", "c")]), (("a",), [("a",)]),
                                 (["c", "a"], [("a", "b", "c"), ("b", "c", "a")]),
                                 ((), []), (("a", "d"), []), (("d",), None)):
            self.watch.wanted = wanted
            self.assertEqual(self.watch.sure(), expected)

    def test_sure_on_other_nets(self):
        for net, wanted, expected in ((ring_net(10), ("l3",), None), (ring_net(1), ("l0",), None), (net_of(""), (), []),
                                      (net_of("u v", "a u v"), ("a",), []),
                                      (net_of("u", "a u u, b u u"), ("b",), [("b",)]),
                                      (net_of("u v", "a u v"), (), [])):
            self.assertEqual(Watch(net, wanted).sure(), expected)


if __name__ == "__main__":
    unittest.main()
