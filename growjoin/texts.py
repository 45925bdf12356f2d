"""Writing: kinds and worths as texts, each in one way only, and read back from them."""

from growjoin.errors import NoText
from growjoin.joins import DEEPEST_KIND, is_worth

FIGURES = "0123456789"
SMALL_LETTERS = "abcdefghijklmnopqrstuvwxyz"
MOST_FIGURES = 60


def show_kind(kind):
    word = kind[0]
    if word == "each":
        return f"each {show_kind(kind[1])}"
    if word == "both":
        return f"both({show_kind(kind[1])}, {show_kind(kind[2])})"
    return word


def show_worth(kind, worth):
    word = kind[0]
    if word == "names":
        return "{" + " ".join(worth) + "}"
    if word == "most":
        return str(worth)
    if word == "last":
        return f"{worth[0]}@{worth[1]}"
    if word == "each":
        return "[" + ", ".join([f"{name}: {show_worth(kind[1], inner)}" for name, inner in worth]) + "]"
    return f"({show_worth(kind[1], worth[0])}, {show_worth(kind[2], worth[1])})"


def read_kind(text):
    """The kind that is written so."""
    reader = Reader(text)
    kind = take_kind(reader, DEEPEST_KIND)
    reader.finish()
    return kind


def read_worth(kind, text):
    """The worth of the kind that is written so."""
    reader = Reader(text)
    worth = take_worth(reader, kind)
    reader.finish()
    # The marks were right; whether names rise, and tables have no bottoms, only now shows.
    if not is_worth(kind, worth):
        raise NoText()
    return worth


class Reader:
    """A text, and how far it was read."""

    def __init__(self, text):
        if not isinstance(text, str):
            raise NoText()
        self.text = text
        self.place = 0

    def skips(self, word):
        """Read the word where it stands next; tells whether it does."""
        if not self.text.startswith(word, self.place):
            return False
        self.place += len(word)
        return True

    def skip(self, word):
        if not self.skips(word):
            raise NoText()

    def take_all(self, signs):
        """Read on as long as one of these signs stands next."""
        start = self.place
        while self.place < len(self.text) and self.text[self.place] in signs:
            self.place += 1
        return self.text[start:self.place]

    def finish(self):
        if self.place < len(self.text):
            raise NoText()


def take_kind(reader, depth):
    # Ahead of going deeper: a text may have more words within one another than Python can follow.
    if depth == 0:
        raise NoText()
    for word in ("names", "most", "last"):
        if reader.skips(word):
            return (word,)
    if reader.skips("each "):
        return ("each", take_kind(reader, depth - 1))
    reader.skip("both(")
    one = take_kind(reader, depth - 1)
    reader.skip(", ")
    other = take_kind(reader, depth - 1)
    reader.skip(")")
    return ("both", one, other)


def take_worth(reader, kind):
    """What stands there by the marks of the kind; it need not be a worth."""
    word = kind[0]
    if word == "names":
        return take_names(reader)
    if word == "most":
        return take_figures(reader)
    if word == "last":
        return take_stamped(reader)
    if word == "each":
        return take_table(reader, kind[1])
    reader.skip("(")
    one = take_worth(reader, kind[1])
    reader.skip(", ")
    other = take_worth(reader, kind[2])
    reader.skip(")")
    return (one, other)


def take_names(reader):
    reader.skip("{")
    names = []
    while not reader.skips("}"):
        if names:
            reader.skip(" ")
        names.append(reader.take_all(SMALL_LETTERS))
    return tuple(names)


def take_table(reader, kind):
    reader.skip("[")
    entries = []
    while not reader.skips("]"):
        if entries:
            reader.skip(", ")
        name = reader.take_all(SMALL_LETTERS)
        reader.skip(": ")
        entries.append((name, take_worth(reader, kind)))
    return tuple(entries)


def take_stamped(reader):
    stamp = take_figures(reader)
    reader.skip("@")
    return (stamp, take_number(reader))


def take_number(reader):
    if not reader.skips("-"):
        return take_figures(reader)
    number = take_figures(reader)
    if number == 0:
        raise NoText()
    return -number


def take_figures(reader):
    figures = reader.take_all(FIGURES)
    if not 1 <= len(figures) <= MOST_FIGURES or (figures[0] == "0" and figures != "0"):
        raise NoText()
    return int(figures)
