"""The one writing of each kind and each paper, and writings read back."""

from tonguegate.errors import NoText
from tonguegate.kinds import DEEPEST_KIND, LETTERS, is_kind
from tonguegate.papers import is_paper

FIGURES = "0123456789"


def show_kind(kind):
    """The writing of the kind."""
    head = kind[0]
    if head == "text":
        return "text"
    if head == "num":
        return f"num {kind[1]}"
    if head == "row":
        return f"row {show_kind(kind[1])}"
    fields = in_brackets([f"{name} {show_kind(inner)}" for name, inner in kind[1]])
    return f"{head} {fields}"


def show_paper(paper):
    """The writing of the paper."""
    name, side, places, result = paper
    shown = in_brackets([f"{place} {way} {show_kind(kind)}" for place, way, kind in places])
    return f"door {name} {side} {shown} {show_result(result)}"


def in_brackets(parts):
    """The parts in brackets, with commas between them."""
    return "(" + ", ".join(parts) + ")"


def show_result(result):
    """The writing of a paper's result, a kind or None."""
    return "none" if result is None else show_kind(result)


def read_kind(text):
    """The kind that the text writes; NoText where it writes none."""
    writing = Writing(text)
    kind = kind_in(writing, DEEPEST_KIND)
    if not writing.is_over() or not is_kind(kind):
        raise NoText("the text writes no kind")
    return kind


def read_paper(text):
    """The paper that the text writes; NoText where it writes none."""
    writing = Writing(text)
    paper = paper_in(writing)
    if not writing.is_over() or not is_paper(paper):
        raise NoText("the text writes no paper")
    return paper


class Writing:
    """A text that is read piece by piece, from its begin on."""

    def __init__(self, text):
        self.text = text
        self.at = 0

    def is_over(self):
        """Whether all signs are read."""
        return self.at == len(self.text)

    def sees(self, piece):
        """Whether the piece comes next; if so, it is read."""
        seen = self.text.startswith(piece, self.at)
        if seen:
            self.at += len(piece)
        return seen

    def skip(self, piece):
        """Read the piece, which has to come next; NoText where it does not."""
        if not self.sees(piece):
            raise NoText("another sign stands here than a writing has")

    def word(self):
        """Read the small letters that come next, as many as there are."""
        begin = self.at
        while self.at < len(self.text) and self.text[self.at] in LETTERS:
            self.at += 1
        return self.text[begin:self.at]

    def figure(self):
        """Read the one figure that has to come next: its number; NoText where none comes."""
        if self.is_over() or self.text[self.at] not in FIGURES:
            raise NoText("no figure stands here")
        self.at += 1
        return int(self.text[self.at - 1])


# What is read below need not keep the limits of kinds and papers yet; only the depth must, as calls go as deep.

def kind_in(writing, depth):
    """Read what has the form of a kind of at most this depth; NoText where nothing has."""
    if depth < 1:
        raise NoText("a kind is too deep")
    head = writing.word()
    if head == "text":
        return ("text",)
    if head not in ("num", "row", "rec", "pick"):
        raise NoText("no kind begins so")
    writing.skip(" ")
    if head == "num":
        return ("num", writing.figure())
    if head == "row":
        return ("row", kind_in(writing, depth - 1))
    writing.skip("(")
    fields = [field_in(writing, depth - 1)]
    while not writing.sees(")"):
        writing.skip(", ")
        fields.append(field_in(writing, depth - 1))
    return (head, tuple(fields))


def field_in(writing, depth):
    """Read a name and a kind of at most this depth."""
    name = writing.word()
    writing.skip(" ")
    return (name, kind_in(writing, depth))


def paper_in(writing):
    """Read what has the form of a paper; NoText where nothing has."""
    writing.skip("door ")
    name = writing.word()
    writing.skip(" ")
    side = writing.figure()
    writing.skip(" (")
    places = places_in(writing)
    writing.skip(" ")
    result = None if writing.sees("none") else kind_in(writing, DEEPEST_KIND)
    return (name, side, places, result)


def places_in(writing):
    """Read the places of a paper, behind the opening bracket and up to the closing one."""
    if writing.sees(")"):
        return ()
    places = [place_in(writing)]
    while not writing.sees(")"):
        writing.skip(", ")
        places.append(place_in(writing))
    return tuple(places)


def place_in(writing):
    """Read a place of a paper: a name, a way and a kind."""
    name = writing.word()
    writing.skip(" ")
    way = writing.word()
    writing.skip(" ")
    return (name, way, kind_in(writing, DEEPEST_KIND))
