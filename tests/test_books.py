"""Points 50 and 51: books, read and written."""

import random
import unittest

from alsoshown.books import Book
from alsoshown.errors import (BadLine, BadName, BadText, EmptyWalk, EmptyWord, NameTaken, NoLane, NoPattern, NoPost,
                              ShowError)
from alsoshown.patterns import Pattern, any_of, none_of, optional, repeated, walk_of
from making import net_of, random_net, rows_of
from test_watching import NO_NAMES
from trees import built, random_tree

TEXT = """post u
post v
lane a u u
lane b u v
lane c v u
want b
ask x a
"""
GOOD = ["post u", "post v", "lane a u v", "lane b v u", "want a", "ask x a b"]


def content(book):
    """All that a book has."""
    return (rows_of(book.net), book.wanted, [(name, book[name].text) for name in book.names])


def written_by_hand(net, wanted, patterns):
    """The lines of a book, as point 51 says them."""
    lines = ["post " + post for post in net.posts]
    lines += [" ".join(["lane", lane, net.start_of(lane), net.end_of(lane)]) for lane in net.lanes]
    lines += ["want " + lane for lane in net.lanes if lane in wanted]
    lines += ["ask " + name + " " + text for name, text in patterns]
    return "".join(line + "\n" for line in lines)


class ReadTest(unittest.TestCase):
    def test_an_empty_book(self):
        for book in (Book(), Book.read(""), Book.read("\n"), Book.read("\n\n\n")):
            self.assertIsInstance(book, Book)
            self.assertEqual(content(book), (((), []), (), []))
            self.assertEqual((len(book), book.names, book.written()), (0, (), ""))

    def test_by_hand(self):
        expected = (rows_of(net_of("u v", "a u u, b u v, c v u")), ("b",), [("x", "a")])
        for text in (TEXT, TEXT[:-1], "\n\n" + TEXT.replace("\n", "\n\n"), TEXT + "\n\n"):
            self.assertEqual(content(Book.read(text)), expected)

    def test_lines_in_another_order(self):
        lines = ["ask y (c)? b", "post v", "lane z v v", "post u", "want z", "ask x a", "lane b u v", "want b",
                 "lane a u u",
                 "ask y [c b c]", "lane c v u", "want a"]
        book = Book.read("\n".join(lines))
        self.assertEqual(content(book), (rows_of(net_of("v u", "z v v, b u v, a u u, c v u")), ("z", "b", "a"),
                                         [("y", "[b c]"), ("x", "a")]))

    def test_the_same_names_for_posts_lanes_and_patterns(self):
        book = Book.read("post post\nlane lane post post\nlane want post post\nwant want\nask ask ask\n"
                         "ask lane post want")
        self.assertEqual(content(book), ((("post",), [("lane", "post", "post"), ("want", "post", "post")]), ("want",),
                                         [("ask", "ask"), ("lane", "post want")]))

    def test_written_patterns(self):
        for text in ("a", ". .", "([^a])* ([a b] | c d)", "[^b a a]", "((a | b))* c", "(a)? b", "(a b | (c)? .) d",
                     "[a]"):
            self.assertEqual(Book.read("ask x " + text)["x"].text, Pattern.read(text).text)
            self.assertIsInstance(Book.read("ask x " + text)["x"], Pattern)

    def test_reading_makes_a_new_book(self):
        one, two = Book.read(TEXT), Book.read(TEXT)
        one["y"] = ("b",)
        self.assertEqual((one.names, two.names), (("x", "y"), ("x",)))
        self.assertEqual((Book().names, Book().net.posts), ((), ()))

    def test_long_texts(self):
        lines = [f"post p{k}" for k in range(10)] + [f"lane l{k} p{k % 10} p{(k * 3) % 10}" for k in range(16)]
        lines += [f"ask n{k} " + "[l1 l2 l3 l4 l5] " * 10 + "x" for k in range(14)]
        book = Book.read("\n".join(lines))
        self.assertEqual((len(book.net.posts), len(book.net), len(book)), (10, 16, 14))
        self.assertEqual(content(Book.read(book.written())), content(book))


class BadLineTest(unittest.TestCase):
    def bad_line(self, text, line, error=None):
        """Check that reading raises BadLine with this line, from this error of the package or from none."""
        with self.assertRaises(BadLine, msg=repr(text)) as caught:
            Book.read(text)
        self.assertEqual(caught.exception.line, line, text)
        cause = caught.exception.__cause__
        self.assertEqual(cause if cause is None else type(cause), error, text)
        if cause is not None:
            self.assertIsInstance(cause, ShowError)
        return cause

    def test_lines_of_no_form(self):
        for wrong in ("x", "post", "post u v", "Post w", "posts w", "lane", "lane d", "lane d u", "lane d u v w",
                      "want", "want b a",
                      "ask", "ask y", " ", "  ", " post w", "post w ", "post  w", "lane d  u v", "lane d u v ",
                      " want b", "want b ",
                      "want  b", " ask y a", "ask  y a", "# post", "post\tw", "post-w", "report", "a", "drop a",
                      "put d u v"):
            for place in range(len(GOOD) + 1):
                lines = GOOD[:place] + [wrong] + GOOD[place:]
                self.bad_line("\n".join(lines), place + 1)
            self.bad_line(wrong, 1)
            self.bad_line("\n\n" + wrong + "\n", 3)

    def test_lines_that_are_refused(self):
        for wrong, error, given in (
                ("post A", BadName, "A"), ("post abcdefghi", BadName, "abcdefghi"), ("post u", NameTaken, "u"),
                ("post 1", BadName, "1"), ("lane A u v", BadName, "A"), ("lane a x y", NameTaken, "a"),
                ("lane d x y", NoPost, "x"),
                ("lane d u y", NoPost, "y"), ("lane d U v", NoPost, "U"), ("lane A x y", BadName, "A"),
                ("want x", NoLane, "x"),
                ("want u", NoLane, "u"), ("want a", NameTaken, "a"), ("want A", NoLane, "A"), ("ask A a", BadName, "A"),
                ("ask abcdefghi a", BadName, "abcdefghi"), ("ask Y )", BadName, "Y"), ("ask 1 (a)*", BadName, "1"),
                ("ask y A", BadText, 0), ("ask y a b)", BadText, 3), ("ask y (a", BadText, 2),
                ("ask y [a]*", BadText, 3), ("ask y a |", BadText, 2), ("ask y abcdefghi", BadText, 8),
                ("ask x []", BadText, 1),
                ("ask y (a)*", EmptyWord, None), ("ask x (a b)?", EmptyWord, None),
                ("ask x (.)* (a)?", EmptyWord, None)):
            before = "\n".join(GOOD) + "\n"
            for text, line in ((before + wrong, 7), (before + "\n" + wrong + "\nx\npost A", 8),
                               (before + wrong + "\n", 7)):
                cause = self.bad_line(text, line, error)
                self.assertEqual(list(vars(cause).values()), [] if given is None else [given])

    def test_two_spaces_or_one_at_the_end_in_a_pattern(self):
        for wrong in ("ask y a  b", "ask y a ", "ask y a b ", "ask y  a"):
            with self.assertRaises(BadLine) as caught:
                Book.read("post u\n" + wrong)
            self.assertEqual(caught.exception.line, 2)

    def test_the_order_of_the_lines_counts(self):
        self.bad_line("lane a u u\npost u", 1, NoPost)
        self.bad_line("post u\nwant a\nlane a u u", 2, NoLane)
        self.bad_line("post u\npost v\nlane a u w\npost w", 3, NoPost)

    def test_the_first_wrong_line_counts(self):
        self.bad_line("post u\npost A\nx\npost u", 2, BadName)
        self.bad_line("post u\n\nx\npost u", 3)
        self.bad_line("post u\n\npost u\nx", 3, NameTaken)


class WrittenTest(unittest.TestCase):
    def test_by_hand(self):
        self.assertEqual(Book.read(TEXT).written(), TEXT)
        text = "ask y a (b)?\npost v\nlane b v v\npost u\nlane a u v\nwant a\nwant b\nask x [^c b]"
        self.assertEqual(Book.read(text).written(),
                         "post v\npost u\nlane b v v\nlane a u v\nwant b\nwant a\nask y a (b)?\nask x [^b c]\n")

    def test_there_and_back(self):
        source = random.Random(500)
        for _ in range(60):
            net = random_net(source, source.randint(1, 10), source.randint(1, 16), source.random() < 0.5)
            wanted = source.sample(net.lanes, source.randint(0, len(net)))
            patterns = []
            for name in source.sample(["x", "y", "z", "abcdefgh", "a1"], source.randint(0, 4)):
                pattern = built(random_tree(source, net.lanes, source.randint(1, 8)))
                if bool(pattern) and len(pattern.text) <= 200:
                    patterns.append((name, pattern.text))
            text = written_by_hand(net, wanted, patterns)
            book = Book.read(text)
            self.assertEqual(content(book), (rows_of(net), tuple(lane for lane in net.lanes if lane in wanted),
                                             patterns))
            self.assertEqual(book.written(), text)
            lines = text.split("\n")
            self.assertEqual(Book.read("\n\n".join(lines)).written(), text)
            # Posts first and then their lanes, but wanted lanes and patterns wherever they may stand.
            parts = {kind: [line for line in lines if line.startswith(kind)] for kind in ("post", "lane", "want",
                "ask")}
            source.shuffle(parts["want"])
            mixed = parts["ask"] + parts["post"] + parts["lane"] + parts["want"]
            self.assertEqual(Book.read("\n".join(mixed)).written(), text)

    def test_patterns_that_were_set(self):
        book = Book.read("post u\nlane a u u")
        book["y"] = ("a", "b")
        book["x"] = any_of("b", "a") + repeated(none_of()) + walk_of("c", "d") | any_of("e")
        self.assertEqual(book.written(), "post u\nlane a u u\nask y a b\nask x ([a b] (.)* c d | e)\n")
        self.assertEqual(content(Book.read(book.written())), content(book))


class PatternsTest(unittest.TestCase):
    def raises(self, error, name, operation):
        with self.assertRaises(error) as caught:
            operation()
        self.assertEqual(caught.exception.name, name)

    def test_patterns_are_kept(self):
        book, lanes = Book(), ["b", "c"]
        book["x"] = lanes
        book["y"] = any_of("a")
        lanes.append("d")
        book["z"] = ("z",)
        book["x"] = any_of("b") + any_of("c", "d")
        self.assertEqual((book.names, len(book)), (("x", "y", "z"), 3))
        self.assertEqual([book[name].text for name in book.names], ["b [c d]", "a", "z"])
        self.assertIsInstance(book["z"], Pattern)
        self.assertIs("x" in book, True)
        for other in ("w", "", "X", None, 1, ("x",), ["x"], {"x": 1}, {"x"}, b"x", book):
            self.assertIs(other in book, False)

    def test_refused(self):
        book = Book.read(TEXT)

        def keep(name, pattern):
            book[name] = pattern
        for wrong in NO_NAMES:
            for pattern in (any_of("a"), (), ("A",), optional(any_of("a"))):
                self.raises(BadName, wrong, lambda: keep(wrong, pattern))
        for name in ("x", "y"):
            self.raises(BadName, "B", lambda: keep(name, ["a", "B", 1]))
            with self.assertRaises(EmptyWalk):
                keep(name, ())
            with self.assertRaises(EmptyWord):
                keep(name, repeated(any_of("a")))
        for name in ("y", "", "a", "X"):
            self.raises(NoPattern, name, lambda: book[name])
        self.assertEqual(book.written(), TEXT)

    def test_properties_cannot_be_assigned_and_are_new(self):
        book = Book.read(TEXT)
        for attribute, value in (("net", net_of("u")), ("wanted", ("a",)), ("names", ("y",))):
            with self.assertRaises(AttributeError):
                setattr(book, attribute, value)
        book.net.cut("a")
        book.net.post("w")
        self.assertIsNot(book.net, book.net)
        self.assertIsInstance(book.wanted, tuple)
        self.assertEqual(book.written(), TEXT)

    def test_a_book_is_not_iterated_over(self):
        with self.assertRaises(TypeError):
            list(Book())


if __name__ == "__main__":
    unittest.main()
