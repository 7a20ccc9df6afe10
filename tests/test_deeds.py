"""Points 46 to 49: deeds on watched nets beside a plain model, what is refused, what is undone, and trials."""

import copy
import random
import unittest

from alsoshown.asked import Asked
from alsoshown.errors import (BadDeed, BadName, BadNumber, EmptyWord, NameTaken, NoLane, NoPattern, NoPost, NothingBack,
                              NotWanted, OneRing, ShowError, StillWanted)
from alsoshown.longest import longest
from alsoshown.nets import Net
from alsoshown.patterns import any_of, none_of, optional, repeated
from alsoshown.watching import Watch, turned
from making import net_of, rows_of

NET = net_of("u v", "c v u, a u u, b u v")
NO_DEEDS = [
    (), ("put",), ("put", "x"), ("put", "x", "u"), ("put", "x", "u", "v", "v"), ("take",), ("take", "a", "b"),
    ("want",),
    ("want", "a", "b"), ("drop",), ("drop", "b", "c"), ("cut", "a"), ("Take", "a"), ("", "a"), ("a",), ("take ", "a"),
    ("put", "a"), ("take", "x", "u", "v"), ["take", "a"], ["put", "x", "u", "v"], [], "take", "take a", "", None, 0, 1,
    True,
    {"take": "a"}, {"take", "a"}, ("take", 1), ("take", None), ("take", ["a"]), ("take", ("a",)), ("put", "x", "u", 1),
    ("put", 1, "u", "v"), ("put", "x", ["u"], "v"), (1, "a"), (None, "a"), (["take"], "a"), ((), "a"), (True, "a"),
    b"take",
    (b"take", "a"), ("want", b"a"), ("put", "x", "u", None), {}, object(),
]
REFUSED = [
    (("put", "A", "u", "v"), BadName, "A"), (("put", "", "x", "y"), BadName, ""),
    (("put", "a", "x", "y"), NameTaken, "a"),
    (("put", "d", "x", "y"), NoPost, "x"), (("put", "d", "u", "y"), NoPost, "y"), (("put", "d", "A", "u"), NoPost, "A"),
    (("put", "A", "x", "y"), BadName, "A"), (("take", "x"), NoLane, "x"), (("take", "u"), NoLane, "u"),
    (("take", ""), NoLane, ""),
    (("take", "b"), StillWanted, "b"), (("want", "x"), NoLane, "x"), (("want", "A"), NoLane, "A"),
    (("want", "b"), NameTaken, "b"),
    (("drop", "x"), NoLane, "x"), (("drop", "a"), NotWanted, "a"), (("drop", ""), NoLane, ""),
]


class Model:
    """What a watched net is to do, with lists and dicts alone."""

    def __init__(self, net, wanted):
        self.posts, self.rows = net.posts, {lane: (net.start_of(lane), net.end_of(lane)) for lane in net.lanes}
        self.wanted, self.patterns, self.done = set(wanted), {}, []

    def do(self, deed, place=0):
        if type(deed) is not tuple or [type(part) for part in deed] not in ([str] * 2, [str] * 4):
            return BadDeed, place
        if (deed[0], len(deed)) not in (("put", 4), ("take", 2), ("want", 2), ("drop", 2)):
            return BadDeed, place
        kind, lane = deed[:2]
        if kind == "put":
            if not 1 <= len(lane) <= 8 or not lane.isalnum() or lane != lane.lower() or lane[0].isdigit():
                return BadName, lane
            if lane in self.rows:
                return NameTaken, lane
            for post in deed[2:]:
                if post not in self.posts:
                    return NoPost, post
        elif lane not in self.rows:
            return NoLane, lane
        elif kind == "take" and lane in self.wanted:
            return StillWanted, lane
        elif kind == "want" and lane in self.wanted:
            return NameTaken, lane
        elif kind == "drop" and lane not in self.wanted:
            return NotWanted, lane
        self.done.append((deed, dict(self.rows), set(self.wanted)))
        if kind == "put":
            self.rows[lane] = deed[2:]
        elif kind == "take":
            del self.rows[lane]
        elif kind == "want":
            self.wanted.add(lane)
        else:
            self.wanted.remove(lane)
        return None

    def do_all(self, deeds):
        before = copy.deepcopy((self.rows, self.wanted, self.done))
        for place, deed in enumerate(deeds):
            wrong = self.do(deed, place)
            if wrong:
                self.rows, self.wanted, self.done = before
                return wrong
        return None

    def back(self, number):
        if number > len(self.done):
            return NothingBack, None
        for _ in range(number):
            _, self.rows, self.wanted = self.done.pop()
        return None

    def net(self):
        net = Net()
        for post in self.posts:
            net.post(post)
        for lane, (start, end) in self.rows.items():
            net.lane(lane, start, end)
        return net

    def states(self):
        asked = Asked(self.net(), tuple(self.wanted)) if self.wanted else None
        return {name: asked(pattern) if asked else "none" for name, pattern in self.patterns.items()}

    def sure(self):
        asked = Asked(self.net(), tuple(self.wanted)) if self.wanted else None
        try:
            return list(longest(asked)) if asked else []
        except OneRing:
            return None


class DeedCase(unittest.TestCase):
    def is_like(self, watch, model):
        """Check that a watched net is what the model is."""
        self.assertEqual(rows_of(watch.net), rows_of(model.net()))
        self.assertEqual(watch.wanted, tuple(lane for lane in model.rows if lane in model.wanted))
        self.assertEqual(watch.told(), [deed for deed, _, _ in model.done])
        self.assertEqual(watch.names, tuple(model.patterns))
        self.assertEqual([watch[name].text for name in watch.names],
                         [pattern.text for pattern in model.patterns.values()])

    def has_states(self, watch, model):
        self.assertEqual(watch.states(), model.states())
        for name in watch.names:
            self.assertEqual(watch.state(name), model.states()[name])
        self.assertEqual(watch.sure(), model.sure())

    def refused(self, operation, error, given):
        """Check that an operation raises this error with this place or name."""
        with self.assertRaises(ShowError) as caught:
            operation()
        self.assertIs(type(caught.exception), error)
        self.assertEqual([value for value in vars(caught.exception).values()], [] if error is NothingBack else [given])

    def add(self, watch, deeds):
        same = watch
        watch += deeds
        self.assertIs(watch, same)

    def picture(self, watch):
        """All that can be seen of a watched net."""
        return (rows_of(watch.net), watch.wanted, watch.told(), [(name, watch[name].text) for name in watch.names],
                watch.states(),
                watch.sure())


class DoTest(DeedCase):
    def setUp(self):
        self.watch = Watch(NET, ("b",))
        self.watch["x"] = ("a",)

    def test_by_hand(self):
        watch = self.watch
        for deed, lanes, wanted, state, sure in (
                (("want", "a"), "cab", "ab", "sure", [("a", "b", "c"), ("b", "c", "a")]),
                (("drop", "b"), "cab", "a", "sure", [("a",)]),
                (("take", "b"), "ca", "a", "sure", None), (("drop", "a"), "ca", "", "none", []),
                (("put", "b", "v", "v"), "cab", "", "none", []),
                (("want", "b"), "cab", "b", "never", None), (("put", "d", "u", "v"), "cabd", "b", "open", [("b",)]),
                (("take", "a"), "cbd", "b", "never", [("b",)]),
                (("put", "a", "u", "u"), "cbda", "b", "open", [("b",)])):
            self.assertIsNone(watch.do(deed))
            self.assertEqual((watch.net.lanes, watch.wanted, watch.state("x"), watch.sure()),
                             (tuple(lanes), tuple(wanted), state, sure))
        self.assertEqual(len(watch.told()), 9)
        self.assertEqual(watch.told()[0], ("want", "a"))
        self.assertEqual((watch.net.start_of("b"), watch.net.end_of("a")), ("v", "u"))

    def test_what_is_no_deed(self):
        before = self.picture(self.watch)
        for wrong in NO_DEEDS:
            self.refused(lambda: self.watch.do(wrong), BadDeed, 0)
            for place in (0, 1, 3):
                deeds = [("want", "a"), ("drop", "b"), ("take", "c")][:place] + [wrong, 5, ("take", "x")]
                self.refused(lambda: self.add(self.watch, deeds), BadDeed, place)
                self.refused(lambda: turned(self.watch, deeds), BadDeed, place)
            self.assertEqual(self.picture(self.watch), before)

    def test_what_is_refused(self):
        before = self.picture(self.watch)
        for deed, error, name in REFUSED:
            self.refused(lambda: self.watch.do(deed), error, name)
            for place in (0, 1, 2):
                deeds = [("put", "e", "u", "v"), ("want", "e")][:place] + [deed, None, ("take", "y")]
                self.refused(lambda: self.add(self.watch, deeds), error, name)
                self.refused(lambda: turned(self.watch, deeds), error, name)
            self.assertEqual(self.picture(self.watch), before)

    def test_lists_are_not_kept(self):
        deeds = [("want", "a"), ("drop", "b")]
        self.add(self.watch, deeds)
        self.assertEqual(deeds, [("want", "a"), ("drop", "b")])
        deeds.clear()
        self.assertEqual(self.watch.told(), [("want", "a"), ("drop", "b")])
        self.add(self.watch, [])
        self.assertEqual(len(self.watch.told()), 2)

    def test_sixty_deeds(self):
        deeds = [("put", "d", "u", "v"), ("want", "d"), ("drop", "d"), ("take", "d")] * 15
        self.add(self.watch, deeds)
        self.assertEqual((self.watch.told(), rows_of(self.watch.net)), (deeds, rows_of(NET)))
        for wrong in range(0, 60, 7):
            self.refused(lambda: self.add(self.watch, deeds[:wrong] + [("take",)] + deeds[wrong:]), BadDeed, wrong)
        self.assertEqual(len(self.watch.told()), 60)
        self.watch.back(60)
        self.assertEqual((self.watch.told(), self.watch.wanted), ([], ("b",)))

    def test_a_net_without_lanes(self):
        watch = Watch(net_of("u"))
        self.add(watch, [("put", "a", "u", "u"), ("want", "a")])
        self.assertEqual((watch.sure(), watch.wanted), (None, ("a",)))
        watch.back(2)
        self.assertEqual((watch.sure(), rows_of(watch.net)), ([], (("u",), [])))


class BackTest(DeedCase):
    def setUp(self):
        self.watch = Watch(NET, ("b",))
        self.add(self.watch, [("want", "a"), ("put", "d", "u", "v"), ("drop", "b")])

    def test_one_and_several(self):
        self.watch.back()
        self.assertEqual((self.watch.wanted, self.watch.told()), (("a", "b"), [("want", "a"), ("put", "d", "u", "v")]))
        self.watch.back(2)
        self.assertEqual((self.watch.wanted, self.watch.told(), rows_of(self.watch.net)), (("b",), [], rows_of(NET)))

    def test_none(self):
        self.watch["x"] = ("a",)
        self.watch.wanted = ("c",)
        before = self.picture(self.watch)
        self.assertIsNone(self.watch.back(0))
        self.assertEqual(self.picture(self.watch), before)

    def test_too_many(self):
        before = self.picture(self.watch)
        for number in (4, 5, 60, 10 ** 59):
            self.refused(lambda: self.watch.back(number), NothingBack, None)
            self.assertEqual(self.picture(self.watch), before)
        self.watch.back(3)
        self.refused(self.watch.back, NothingBack, None)
        self.watch.back(0)

    def test_what_is_no_number(self):
        for wrong in (-1, -10 ** 59, True, False, None, "1", 1.0, (1,), [0], "", b"1"):
            with self.assertRaises(BadNumber, msg=repr(wrong)) as caught:
                self.watch.back(wrong)
            self.assertIs(caught.exception.value, wrong)
        self.assertEqual(len(self.watch.told()), 3)

    def test_what_was_assigned_to_wanted_is_forgotten(self):
        self.watch.wanted = ("c", "d")
        self.watch.do(("want", "a"))
        self.watch.wish(("b",))
        self.watch.back()
        self.assertEqual(self.watch.wanted, ("c", "d"))
        self.watch.back()
        self.assertEqual(self.watch.wanted, ("a", "b"))
        self.watch.wish(())
        self.watch.back(2)
        self.assertEqual(self.watch.wanted, ("b",))
        self.watch.wish(["c"])
        self.watch.do(("want", "a"))
        self.watch.back()
        self.assertEqual(self.watch.wanted, ("c",))

    def test_the_patterns_stay(self):
        self.watch["x"] = ("a",)
        self.watch.do(("take", "c"))
        self.watch["y"] = ("b",)
        self.watch["x"] = ("c",)
        self.watch.back(4)
        self.assertEqual((self.watch.names, self.watch["x"].text, self.watch["y"].text), (("x", "y"), "c", "b"))


class TrialTest(DeedCase):
    def setUp(self):
        self.watch = Watch(NET, ("b",))
        self.watch["x"] = ("a",)
        self.watch.do(("put", "d", "u", "v"))
        self.before = self.picture(self.watch)

    def change(self, watch):
        """Change all that can be changed."""
        watch.wanted = ("a", "c")
        self.add(watch, [("take", "b"), ("drop", "a"), ("put", "e", "v", "v")])
        watch["x"] = ("b", "c")
        watch["y"] = any_of("c")
        self.assertNotEqual(self.picture(watch), self.before)

    def test_left_in_the_ordinary_way(self):
        with self.watch.trial():
            self.change(self.watch)
            self.assertEqual((self.watch.names, self.watch.wanted), (("x", "y"), ("c",)))
        self.assertEqual(self.picture(self.watch), self.before)
        with self.watch.trial() as held:
            self.watch.back()
            self.watch.wish(())
            self.assertIsNotNone(held)
        self.assertEqual(self.picture(self.watch), self.before)
        self.watch.back()
        self.assertEqual(rows_of(self.watch.net), rows_of(NET))

    def test_left_by_an_error(self):
        for error in (RuntimeError("stop"), KeyboardInterrupt(), NoLane("x")):
            with self.assertRaises(type(error)) as caught:
                with self.watch.trial():
                    self.change(self.watch)
                    raise error
            self.assertIs(caught.exception, error)
            self.assertEqual(self.picture(self.watch), self.before)
        with self.assertRaises(StillWanted):
            with self.watch.trial():
                self.watch.do(("want", "a"))
                self.watch.do(("take", "a"))
        self.assertEqual(self.picture(self.watch), self.before)

    def test_the_beginning_is_that_of_the_statement(self):
        trial = self.watch.trial()
        self.watch["z"] = ("d",)
        self.watch.do(("want", "d"))
        before = self.picture(self.watch)
        with trial:
            self.change(self.watch)
        self.assertEqual(self.picture(self.watch), before)

    def test_trials_within_trials(self):
        with self.watch.trial():
            self.watch.do(("want", "a"))
            middle = self.picture(self.watch)
            for _ in range(2):
                with self.watch.trial():
                    self.change(self.watch)
                    inner = self.picture(self.watch)
                    with self.watch.trial():
                        self.watch.back(2)
                        self.watch["q"] = ("a",)
                        self.assertEqual(turned(self.watch, []), {})
                    self.assertEqual(self.picture(self.watch), inner)
                self.assertEqual(self.picture(self.watch), middle)
            with self.assertRaises(BadDeed):
                with self.watch.trial():
                    self.change(self.watch)
                    self.watch.do(())
            self.assertEqual(self.picture(self.watch), middle)
        self.assertEqual(self.picture(self.watch), self.before)

    def test_left_early(self):
        def leave():
            for _ in range(3):
                with self.watch.trial():
                    self.change(self.watch)
                    return self.watch.names
        self.assertEqual(leave(), ("x", "y"))
        self.assertEqual(self.picture(self.watch), self.before)

    def test_two_watched_nets(self):
        other = Watch(NET, ("a",))
        with self.watch.trial():
            other.do(("drop", "a"))
            self.change(self.watch)
        self.assertEqual((other.wanted, other.told()), ((), [("drop", "a")]))
        self.assertEqual(self.picture(self.watch), self.before)


class TurnedTest(DeedCase):
    def setUp(self):
        self.watch = Watch(NET, ("b",))
        for name, pattern in (("one", ("a",)), ("two", ("b", "c")), ("three", ("b", "b")), ("four", any_of("c"))):
            self.watch[name] = pattern

    def test_by_hand(self):
        before = self.picture(self.watch)
        for deeds, expected in (
                ([], {}), ([("want", "a")], {"one": ("open", "sure")}), ([("take", "a")], {"one": ("open", "never")}),
                ([("put", "d", "v", "v")], {"two": ("sure", "open")}),
                ([("drop", "b")], {"one": ("open", "none"), "two": ("sure", "none"), "three": ("never", "none"),
                                   "four": ("sure", "none")}),
                ([("drop", "b"), ("want", "b")], {}), ([("put", "d", "u", "u"), ("take", "a")],
                                                       {"one": ("open", "never")}),
                ([("want", "a"), ("drop", "b")], {"one": ("open", "sure"), "two": ("sure", "open"),
                                                  "four": ("sure", "open")})):
            copied = list(deeds)
            self.assertEqual(turned(self.watch, deeds), expected)
            self.assertEqual((self.picture(self.watch), deeds), (before, copied))

    def test_no_patterns(self):
        watch = Watch(NET, ("b",))
        self.assertEqual(turned(watch, [("drop", "b")]), {})
        self.refused(lambda: turned(watch, [("drop", "b"), ("drop", "b")]), NotWanted, "b")
        self.assertEqual((watch.wanted, watch.told()), (("b",), []))


class ModelTest(DeedCase):
    """Many things that happen to a watched net, and to the model."""

    def random_deed(self, source, model):
        lanes = list(model.rows) or ["a"]
        kind = source.choice(["put", "put", "take", "want", "drop"])
        if source.random() < 0.05:
            return source.choice(NO_DEEDS)
        if kind == "put":
            return (kind, source.choice("abcdefg"), source.choice("uvwuvwuvwx"), source.choice("uvwuvwuvwy"))
        return (kind, source.choice([*lanes, "h"]))

    def happen(self, source, watch, model):
        """Let one thing happen to both."""
        what = source.randrange(8)
        if what < 3:
            deed = self.random_deed(source, model)
            self.alike(lambda: watch.do(deed), model.do(deed))
        elif what == 3:
            deeds, guess = [], copy.deepcopy(model)
            while source.random() < 0.75:
                deeds.append(self.random_deed(source, guess))
                guess.do(deeds[-1])
            self.alike(lambda: self.add(watch, deeds), model.do_all(deeds))
        elif what == 4:
            number = source.choice([0, 1, 1, 2, 3, 9])
            self.alike(lambda: watch.back(number), model.back(number))
        elif what == 5:
            wanted = [source.choice(list(model.rows)) for _ in range(source.randint(0, 3))] if model.rows else []
            if source.random() < 0.5:
                watch.wish(wanted)
            else:
                watch.wanted = tuple(wanted)
            model.wanted = set(wanted)
        elif what == 6:
            name = source.choice(["p", "q", "r"])
            pattern = source.choice([any_of("a", "b"), any_of("a") + none_of("c"),
                                     any_of("c") + repeated(none_of("a")) + any_of("b")])
            watch[name] = pattern
            model.patterns[name] = pattern
        else:
            self.turn(source, watch, model)

    def alike(self, operation, wrong):
        """Check that an operation raises what the model says, or nothing."""
        if wrong is None:
            operation()
        else:
            self.refused(operation, *wrong)

    def turn(self, source, watch, model):
        deeds, after = [], copy.deepcopy(model)
        for _ in range(source.randint(0, 4)):
            deeds.append(self.random_deed(source, after))
            wrong = after.do(deeds[-1], len(deeds) - 1)
            if wrong:
                self.refused(lambda: turned(watch, deeds), *wrong)
                return
        one, two = model.states(), after.states()
        self.assertEqual(turned(watch, deeds), {name: (one[name], two[name]) for name in one if one[name] != two[name]})

    def test_random_happenings(self):
        for seed in range(40):
            source = random.Random(460 + seed)
            net = net_of("u v w", "a u v, b v u, c v w, d w u")
            watch, model = Watch(net, ("a",)), Model(net, ("a",))
            for step in range(40):
                if source.random() < 0.1:
                    kept = copy.deepcopy(model)
                    with watch.trial():
                        for _ in range(source.randint(0, 5)):
                            self.happen(source, watch, model)
                            self.is_like(watch, model)
                    model = kept
                self.happen(source, watch, model)
                self.is_like(watch, model)
                if step % 4 == 0:
                    self.has_states(watch, model)

    def test_errors_of_patterns_change_nothing(self):
        watch = Watch(NET, ("b",))
        watch["x"] = any_of("a")
        before = self.picture(watch)
        for operation, error in ((lambda: watch["y"], NoPattern), (lambda: watch.state("y"), NoPattern)):
            with self.assertRaises(error):
                operation()
        with self.assertRaises(EmptyWord):
            watch["x"] = optional(any_of("a"))
        self.assertEqual(self.picture(watch), before)


if __name__ == "__main__":
    unittest.main()
