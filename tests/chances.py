"""Good programs by chance, the same for each seed."""

import random

from samples import NUM, TEXT
from sketches import EITHER, PAIR, ROWS
from things import ROW, worth_by_chance
from tonguegate.kinds import part_kind

SWAPPED = ("rec", (("b", ("num", 2)), ("a", TEXT)))
KINDS = (NUM, ("num", 2), TEXT, ROW, PAIR, EITHER, ROWS, SWAPPED)
# Names that places, bodies and shelves use; few, so that they often meet.
NAMES = ("a", "ab", "b", "c", "d", "s", "t")
WAYS = ("copy", "give", "lend", "lease")


class Writer:
    """Writes the body of one door, statement by statement, knowing what the rules know."""

    def __init__(self, chance, papers, paper, shelves):
        self.chance = chance
        self.papers = papers
        self.result = paper[3]
        self.ways = {name: way for name, way, kind in paper[2]}
        self.kinds = {name: kind for name, side, kind, worth in shelves if side == paper[1]}
        self.kinds.update({name: kind for name, way, kind in paper[2]})

    def worth(self, kind):
        if kind == ROW and self.chance.randrange(6) == 0:
            return (1,) * self.chance.choice((59, 60))
        return worth_by_chance(self.chance, kind, 2)

    def known(self, kind=None, barred=()):
        """The known names of a kind, but those of places of a barred way."""
        return [name for name in sorted(self.kinds)
                if (kind is None or self.kinds[name] == kind) and self.ways.get(name) not in barred]

    def to_make(self, kind):
        """A name that may be made with this kind, or None."""
        fit = [name for name in NAMES if self.kinds.get(name, kind) == kind and self.ways.get(name) not in ("lend", "lease")]
        return self.chance.choice(fit) if fit else None

    def made(self, kind):
        name = self.to_make(kind)
        if name is not None:
            self.kinds[name] = kind
        return name

    def body(self, depth, most=6):
        statements = []
        for at in range(self.chance.randrange(1, most)):
            statement = self.statement(depth)
            if statement is not None:
                statements.append(statement)
        return tuple(statements)

    def statement(self, depth):
        """A statement, or None where none of the sort that came up fits."""
        words = ("new", "new", "copy", "part", "put", "put", "add", "add", "drop", "say", "say", "call", "call", "call", "fail",
                 "back") + (("same", "try", "try") if depth < 4 else ())
        word = self.chance.choice(words)
        if word == "fail":
            return ("fail", self.chance.randrange(1000)) if self.chance.randrange(2) else None
        if word in ("new", "call"):
            return getattr(self, word)()
        if word == "try":
            return ("try", self.body(depth + 1, 5), self.body(depth + 1, 4))
        return getattr(self, word)(depth) if self.kinds else None

    def new(self):
        kind = self.chance.choice(KINDS)
        worth = self.worth(kind)
        name = self.made(kind)
        return None if name is None else ("new", name, kind, worth)

    def copy(self, depth):
        source = self.chance.choice(self.known())
        name = self.made(self.kinds[source])
        return None if name is None else ("copy", name, source)

    def some_path(self, kind):
        """A path that the kind has."""
        path = ()
        while kind[0] in ("row", "rec", "pick") and self.chance.randrange(3):
            step = self.chance.choice((0, 0, 1)) if kind[0] == "row" else self.chance.choice(kind[1])[0]
            path, kind = path + (step,), part_kind(kind, (step,))
        return path

    def part(self, depth):
        source = self.chance.choice(self.known())
        path = self.some_path(self.kinds[source])
        name = self.made(part_kind(self.kinds[source], path))
        return None if name is None else ("part", name, source, path)

    def put(self, depth):
        targets = self.known(barred=("lend",))
        if not targets:
            return None
        target = self.chance.choice(targets)
        path = self.some_path(self.kinds[target])
        names = self.known(part_kind(self.kinds[target], path))
        return ("put", target, path, self.chance.choice(names)) if names else None

    def add(self, depth):
        ends = [(target, path) for target in self.known(barred=("lend",)) for path in ((), (0,), ("r",))
                if self.row_at(self.kinds[target], path)]
        if not ends:
            return None
        target, path = self.chance.choice(ends)
        names = self.known(part_kind(self.kinds[target], path)[1])
        return ("add", target, path, self.chance.choice(names)) if names else None

    def row_at(self, kind, path):
        try:
            return part_kind(kind, path)[0] == "row"
        except ValueError:
            return False

    def drop(self, depth):
        names = self.known(barred=("lend", "lease"))
        return ("drop", self.chance.choice(names)) if names and self.chance.randrange(2) else None

    def say(self, depth):
        return ("say", self.chance.choice(self.known()))

    def same(self, depth):
        one = self.chance.choice(self.known())
        other = self.chance.choice(self.known(self.kinds[one]))
        return ("same", one, other, self.body(depth + 1, 5), self.body(depth + 1, 5))

    def back(self, depth):
        names = self.known(self.result, ("lend", "lease")) if self.result is not None else []
        return ("back", self.chance.choice(names)) if names and self.chance.randrange(3) else None

    def call(self):
        paper = self.chance.choice(self.papers)
        names = []
        for place, way, kind in paper[2]:
            barred = {"copy": (), "give": ("lend", "lease"), "lend": (), "lease": ("lend",)}[way]
            fit = self.known(kind, barred)
            if not fit:
                return None
            names.append(self.chance.choice(fit))
        target = self.made(paper[3]) if paper[3] is not None and self.chance.randrange(3) else None
        return ("call", target, paper[0], tuple(names))


def shelves_by_chance(chance):
    found = {}
    for at in range(chance.randrange(5)):
        kind = chance.choice(KINDS[:5])
        key = (chance.choice(("s", "t", "c")), chance.randrange(2))
        found[key] = key + (kind, worth_by_chance(chance, kind, 2))
    return tuple(found.values())


def paper_by_chance(chance, name, shelves):
    side = chance.randrange(2)
    taken = [shelf[0] for shelf in shelves if shelf[1] == side]
    free = [one for one in NAMES if one not in taken]
    names = chance.sample(free, chance.randrange(min(4, len(free) + 1)))
    places = tuple((one, chance.choice(WAYS), chance.choice(KINDS[:5])) for one in names)
    return (name, side, places, chance.choice((None,) + KINDS[:4]))


def program_by_chance(seed):
    """A good program, and a list of tuples (door, worths) to run it with."""
    chance = random.Random(seed)
    shelves = shelves_by_chance(chance)
    papers = [paper_by_chance(chance, name, shelves) for name in ("main", "one", "two", "three")[:chance.randrange(1, 5)]]
    doors = tuple((paper, Writer(chance, papers, paper, shelves).body(1, 14)) for paper in papers)
    asked = [(paper[0], [worth_by_chance(chance, kind, 2) for place, way, kind in paper[2]]) for paper in papers]
    return (doors, shelves), asked
