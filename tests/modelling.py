"""A run as the points tell it, with bare worths and without any keeper: what the plain run has to tell."""

from tonguegate.kinds import part_kind
from tonguegate.worths import part_of, with_more, with_part
from tonguegate.errors import Full, NoPart

GO_ON = ("go on",)
STOPPED = ("stopped",)


class RunModel:
    """Each statement tells how it ended: GO_ON, ("back", number), ("fault", fault) or STOPPED."""

    def __init__(self, program, steps):
        self.doors = {paper[0]: (paper, body) for paper, body in program[0]}
        self.left = steps
        self.worths = {}
        self.kinds = {}
        self.many = 0
        self.book = []
        self.said = []
        self.depth = 0
        # By (side, name) of shelves and (body, name) of all others: a thing's number.
        self.at = {}
        # By the same keys, how often it is lent, and those that are leased.
        self.lent = {}
        self.leased = set()
        self.shelves = [(side, name) for name, side, kind, worth in program[1]]
        for name, side, kind, worth in program[1]:
            self.at[(side, name)] = self.make(side, kind, worth)

    def enter(self, kind, worth):
        number = self.many
        self.many += 1
        self.kinds[number], self.worths[number] = kind, worth
        return number

    def make(self, side, kind, worth):
        number = self.enter(kind, worth)
        self.book.append(("make", side, number))
        return number

    def share(self, number):
        new = self.enter(self.kinds[number], self.worths[number])
        self.book.append(("share", number, new))
        return new

    def read(self, side, number):
        self.book.append(("read", side, number))
        return self.worths[number]

    def drop(self, number):
        del self.worths[number], self.kinds[number]
        self.book.append(("drop", number))

    def key(self, body, name):
        """A body is (its side, its own number); the number of the one outside is None."""
        side, own = body
        if own is not None and (side, name) in self.shelves:
            return (side, name)
        return (body, name)

    def look(self, key, sort):
        """The fault of a look of this sort, or None."""
        if sort != "place" and key not in self.at:
            return ("gone", key[1])
        barred = key in self.leased or (sort in ("change", "place") and self.lent.get(key, 0) > 0)
        return ("held", key[1]) if barred else None

    def looks(self, *pairs):
        for key, sort in pairs:
            fault = self.look(key, sort)
            if fault is not None:
                return ("fault", fault)
        return GO_ON

    def place(self, key, number):
        if key in self.at:
            self.drop(self.at[key])
        self.at[key] = number

    def body(self, body, statements):
        for statement in statements:
            if self.left == 0:
                return STOPPED
            self.left -= 1
            end = self.statement(body, statement)
            if end != GO_ON:
                return end
        return GO_ON

    def statement(self, body, statement):
        word = statement[0]
        if word == "fail":
            return ("fault", statement)
        if word == "try":
            end = self.body(body, statement[1])
            return self.body(body, statement[2]) if end[0] == "fault" else end
        return getattr(self, "do_" + word)(body, *statement[1:])

    def do_new(self, body, x, kind, worth):
        x = self.key(body, x)
        end = self.looks((x, "place"))
        if end == GO_ON:
            self.place(x, self.make(body[0], kind, worth))
        return end

    def do_copy(self, body, x, y):
        x, y = self.key(body, x), self.key(body, y)
        end = self.looks((y, "read"), (x, "place"))
        if end == GO_ON:
            self.place(x, self.share(self.at[y]))
        return end

    def do_part(self, body, x, y, path):
        x, y = self.key(body, x), self.key(body, y)
        end = self.looks((y, "read"), (x, "place"))
        if end == GO_ON:
            number = self.at[y]
            try:
                part = part_of(self.kinds[number], self.worths[number], path)
            except NoPart:
                return ("fault", ("nopart",))
            self.book.append(("part", body[0], number))
            self.place(x, self.make(body[0], part_kind(self.kinds[number], path), part))
        return end

    def do_put(self, body, y, path, x, change=with_part, word="put"):
        x, y = self.key(body, x), self.key(body, y)
        end = self.looks((x, "read"), (y, "change"))
        if end == GO_ON:
            worth = self.read(body[0], self.at[x])
            number = self.at[y]
            try:
                self.worths[number] = change(self.kinds[number], self.worths[number], path, worth)
            except NoPart:
                return ("fault", ("nopart",))
            except Full:
                return ("fault", ("full",))
            self.book.append((word, body[0], number))
        return end

    def do_add(self, body, y, path, x):
        return self.do_put(body, y, path, x, with_more, "grow")

    def do_drop(self, body, x):
        x = self.key(body, x)
        end = self.looks((x, "change"))
        if end == GO_ON:
            self.drop(self.at.pop(x))
        return end

    def do_say(self, body, x):
        x = self.key(body, x)
        end = self.looks((x, "read"))
        if end == GO_ON:
            self.said.append((body[0], self.read(body[0], self.at[x])))
        return end

    def do_same(self, body, x, y, first, second):
        x, y = self.key(body, x), self.key(body, y)
        end = self.looks((x, "read"), (y, "read"))
        if end != GO_ON:
            return end
        one, other = self.read(body[0], self.at[x]), self.read(body[0], self.at[y])
        return self.body(body, first if one == other else second)

    def do_back(self, body, x):
        x = self.key(body, x)
        end = self.looks((x, "change"))
        return ("back", self.at.pop(x)) if end == GO_ON else end

    def do_call(self, body, z, name, names):
        end = self.call(body, name, names)
        if end[0] != "back" or end[1] is None:
            return GO_ON if end[0] == "back" else end
        if z is None:
            self.drop(end[1])
            return GO_ON
        z = self.key(body, z)
        placed = self.looks((z, "place"))
        if placed == GO_ON:
            self.place(z, end[1])
        else:
            self.drop(end[1])
        return placed

    def call(self, body, name, names):
        """How the call ended: ("back", number or None), ("fault", fault) or STOPPED."""
        paper, statements = self.doors[name]
        if self.depth == 8:
            return ("fault", ("deep",))
        called = (paper[1], object())
        lent, leased = [], []
        end = self.hand(body, called, names, paper[2], lent, leased)
        if end == GO_ON:
            self.depth += 1
            end = self.body(called, statements)
            self.depth -= 1
            if end == GO_ON:
                end = ("back", None) if paper[3] is None else ("fault", ("noback",))
        borrowed = [place for place, way, kind in paper[2] if way in ("lend", "lease")]
        for key in sorted((key for key in self.at if key[0] == called), key=lambda key: key[1]):
            number = self.at.pop(key)
            if key[1] not in borrowed:
                self.drop(number)
        for key in lent:
            self.lent[key] -= 1
        self.leased -= set(leased)
        return end

    def hand(self, body, called, names, places, lent, leased):
        for name, (place, way, kind) in zip(names, places):
            key, there = self.key(body, name), (called, place)
            end = self.looks((key, "read" if way in ("copy", "lend") else "change"))
            if end != GO_ON:
                return end
            if way == "copy":
                self.at[there] = self.share(self.at[key])
            elif way == "give":
                self.at[there] = self.at.pop(key)
            else:
                self.at[there] = self.at[key]
                if way == "lend":
                    self.lent[key] = self.lent.get(key, 0) + 1
                    lent.append(key)
                else:
                    self.leased.add(key)
                    leased.append(key)
        return GO_ON

    def from_outside(self, name, worths):
        paper = self.doors[name][0]
        outside = (1 - paper[1], None)
        places = [place for place, way, kind in paper[2]]
        for (place, way, kind), worth in zip(paper[2], worths):
            self.at[(outside, place)] = self.make(outside[0], kind, worth)
        end = self.call(outside, name, places)
        if end[0] == "back":
            if end[1] is None:
                end = ("done",)
            else:
                number = end[1]
                end = ("back", self.read(outside[0], number))
                self.drop(number)
        for place in sorted(places):
            if (outside, place) in self.at:
                self.drop(self.at.pop((outside, place)))
        return end


def run_model(program, door, worths, steps):
    """What the plain run has to tell."""
    model = RunModel(program, steps)
    end = model.from_outside(door, worths)
    shelves = []
    for side, name in model.shelves:
        number = model.at.pop((side, name), None)
        shelves.append((name, side, None if number is None else model.read(side, number)))
        if number is not None:
            model.drop(number)
    return (model.said, end, shelves, model.book)
