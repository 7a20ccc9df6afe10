"""Point 52: the reports of books."""

import random

from alsoshown.asked import Asked
from alsoshown.books import Book
from alsoshown.rounds import Round
from alsoshown.watching import Watch
from checks import AskedCase
from making import net_of, random_net
from searching import Nothing, shortest_ring
from test_books import TEXT, written_by_hand
from trees import built, random_tree


def text_of(*lines):
    return "".join(line + "\n" for line in lines)


class ReportTest(AskedCase):
    def test_the_example_of_the_document(self):
        expected = text_of("posts 2 lanes 3", "wanted b", "round b c", "x        open  a", "sure b c")
        report = Book.read(TEXT).report()
        self.assertIn(report, (expected, expected.replace("round b c", "round c b")))

    def test_no_wanted_lanes(self):
        self.assertEqual(Book().report(), text_of("posts 0 lanes 0", "wanted", "no round"))
        text = TEXT.replace("want b\n", "") + "ask abcdefgh [a b]\nask y2 a c\n"
        self.assertEqual(Book.read(text).report(), text_of(
            "posts 2 lanes 3", "wanted", "no round", "x        none  a", "abcdefgh none  [a b]", "y2       none  a c"))

    def test_no_rounds(self):
        text = "post u\npost v\npost w\nlane a u u\nlane b u v\nlane c v v\nwant c\nask x c\nwant a\nask y (a | b)"
        self.assertEqual(Book.read(text).report(), text_of(
            "posts 3 lanes 3", "wanted a c", "no round", "x        none  c", "y        none  (a | b)"))

    def test_a_single_ring(self):
        text = "post u\npost v\npost w\nlane a u v\nlane b v u\nlane c v w\nwant b\nask x b (.)* b\nask yes a c\n"
        report = Book.read(text).report().split("\n")
        self.assertIn(report[2], ("round a b", "round b a"))
        self.assertEqual(report[:2] + report[3:], [
            "posts 3 lanes 3", "wanted b", "x        sure  b (.)* b", "yes      never a c", "sure all", ""])

    def test_all_states_and_several_stretches(self):
        text = ("post u\npost v\npost w\nlane c u v\nlane d v u\nlane b u w\nlane a w u\nlane e u u\nwant a\nwant d\n"
                "ask s [a b]\nask o a d\nask abcdefgh e\nask n a b c d e")
        report = Book.read(text).report().split("\n")
        self.assertEqual(report[:2] + report[3:], [
            "posts 3 lanes 5", "wanted d a", "s        sure  [a b]", "o        never a d", "abcdefgh open  e",
            "n        never a b c d e",
            "sure b a", "sure c d", ""])
        self.assertEqual(report[2][:6], "round ")
        self.assertEqual(len(report[2].split()), 5)

    def test_no_sure_stretches_without_rounds_and_some_with_them(self):
        net = net_of("u", "a u u, b u u, c u u")
        self.assertEqual(Book.read(written_by_hand(net, ("a", "b"), [])).report().split("\n")[3:],
                         ["sure a", "sure b", ""])

    def test_five_wanted_lanes(self):
        source = random.Random(520)
        for _ in range(60):
            net = random_net(source, source.randint(1, 6), source.randint(5, 10), source.random() < 0.8)
            wanted = source.sample(net.lanes, source.randint(0, 5))
            patterns = []
            for name in ("p", "q12", "abcdefgh"):
                pattern = built(random_tree(source, [*net.lanes, "x"], 3))
                if bool(pattern):
                    patterns.append((name, pattern.text))
            self.has_report(net, wanted, patterns)

    def test_nets_near_the_limits(self):
        source = random.Random(521)
        for posts, lanes in ((10, 16), (1, 16), (4, 16), (12, 20)):
            net = random_net(source, posts, lanes)
            for many in (1, 5, 6):
                self.has_report(net, source.sample(net.lanes, many), [("x", "[l0 l1] . . . . . . . . . . l2"),
                                                                      ("y", "l3 ([^l4])* l5")])

    def has_report(self, net, wanted, patterns):
        """Check a report line by line; states and stretches are compared with a watched net."""
        report = Book.read(written_by_hand(net, wanted, patterns)).report()
        self.assertEqual(report[-1], "\n")
        lines = report[:-1].split("\n")
        order = [lane for lane in net.lanes if lane in wanted]
        self.assertEqual(lines[:2], [f"posts {len(net.posts)} lanes {len(net)}", " ".join(["wanted", *order])])
        watch = Watch(net, wanted)
        states = [f"{name.ljust(8)} {self.state(watch, name, text).ljust(5)} {text}" for name, text in patterns]
        asked = Asked(net, wanted) if wanted else None
        if not asked:
            self.assertEqual(lines[2:], ["no round"] + states)
            return
        word, *ring = lines[2].split(" ")
        self.assertEqual(word, "round")
        self.is_round_of(Round(ring), asked)
        if len(net) < 11:
            self.assertEqual(len(ring), shortest_ring(net, wanted, Nothing()))
        stretches = watch.sure()
        sure = ["sure all"] if stretches is None else [" ".join(["sure", *stretch]) for stretch in stretches]
        self.assertEqual(lines[3:], states + sure)

    def state(self, watch, name, text):
        watch[name] = Book.read(f"ask {name} {text}")[name]
        return watch.state(name)
