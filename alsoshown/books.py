"""Books: texts that describe a net, wanted lanes and patterns with names, and reports on them."""

from alsoshown.errors import BadLine, NameTaken, ShowError
from alsoshown.keeping import asked_of, in_order_of, pattern_under, state_of, sure_of, with_pattern
from alsoshown.names import check_name
from alsoshown.nets import Net, check_lanes
from alsoshown.patterns import Pattern
from alsoshown.shortest import shortest


class Book:
    """A net, wanted lanes and patterns with names."""

    def __init__(self):
        self._net = Net()
        self._wanted = []
        self._patterns = {}

    @classmethod
    def read(cls, text):
        """The book that the lines of a text describe."""
        book = cls()
        for place, line in enumerate(text.split("\n")):
            if line != "":
                _read_line(book, line, place + 1)
        return book

    @property
    def net(self):
        """A copy of the net."""
        return self._net.copy()

    @property
    def wanted(self):
        """The wanted lanes in the order of the net."""
        return in_order_of(self._net, self._wanted)

    @property
    def names(self):
        """The names of the patterns in the order in which they were first set."""
        return tuple(self._patterns)

    def written(self):
        """The text of the book."""
        net = self._net
        lines = [f"post {post}" for post in net.posts]
        lines.extend([f"lane {lane} {net.start_of(lane)} {net.end_of(lane)}" for lane in net.lanes])
        lines.extend([f"want {lane}" for lane in self.wanted])
        lines.extend([f"ask {name} {self[name].text}" for name in self.names])
        return _text_of(lines)

    def report(self):
        """What the rounds show, as a text."""
        net = self._net
        asked = asked_of(net, self.wanted)
        lines = [f"posts {len(net.posts)} lanes {len(net)}", _line("wanted", self.wanted)]
        lines.append("no round" if asked is None else _line("round", shortest(asked).lanes))
        for name in self.names:
            lines.append(f"{name:<8} {state_of(asked, self[name]):<5} {self[name].text}")
        stretches = sure_of(asked)
        lines.extend(["sure all"] if stretches is None else [_line("sure", stretch) for stretch in stretches])
        return _text_of(lines)

    def __getitem__(self, at):
        return pattern_under(self._patterns, at)

    def __setitem__(self, at, worth):
        self._patterns = with_pattern(self._patterns, at, worth)

    def __contains__(self, x):
        return isinstance(x, str) and x in self._patterns

    def __iter__(self):
        # Without this, Python would try book[0], book[1] and so on.
        raise TypeError("a book is not iterated over: take its names")

    def __len__(self):
        return len(self._patterns)


def _line(word, lanes):
    """A line of a report: a word and lanes, each after a space."""
    return " ".join([word, *lanes])


def _text_of(lines):
    """The text of these lines, each followed by a line feed."""
    return "".join([line + "\n" for line in lines])


def _read_line(book, line, number):
    """Add to the book what the line of this number says."""
    try:
        known = _add_words(book, line.split(" "))
    except ShowError as e:
        raise BadLine(number) from e
    if not known:
        raise BadLine(number)


def _add_words(book, words):
    """Add to the book what the words of a line say; tell whether they have one of the forms."""
    # Two spaces side by side, or one at the beginning or at the end, leave an empty word.
    if "" in words:
        return False
    kind = words[0]
    many = len(words)
    if kind == "post" and many == 2:
        book._net.post(words[1])
    elif kind == "lane" and many == 4:
        book._net.lane(words[1], words[2], words[3])
    elif kind == "want" and many == 2:
        _want(book, words[1])
    elif kind == "ask" and many > 2:
        check_name(words[1])
        book[words[1]] = Pattern.read(" ".join(words[2:]))
    else:
        return False
    return True


def _want(book, lane):
    """Make a lane of the book wanted."""
    check_lanes(book._net, (lane,))
    if lane in book._wanted:
        raise NameTaken(lane)
    book._wanted.append(lane)
