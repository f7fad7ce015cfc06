"""What holds for every keeper [24], [25]: the tests of a keeper's class are these with keepers of that class."""

import random

from samples import DOT, LABEL, NUM, PAGE, SHAPE, SHEET, TEXT, TRACK
from things import MIXED, ROW, ROWS, kind_by_chance, paths, worth_by_chance
from tonguegate.errors import Full, GateError, NoPart, NoThing
from tonguegate.kinds import part_kind
from tonguegate.worths import part_of, with_more, with_part

NO_NUMBERS = (-1, -2, -100, 1000, 10 ** 40, -10 ** 40, 65536)


def plain_rows(keeper):
    """The keeper's book, but for turns and splits."""
    return [row for row in keeper.book() if row[0] not in ("turn", "split")]


def deeds(keeper, side, thing):
    """By name, each deed that asks for a thing, asked of this one."""
    return {
        "share": lambda: keeper.share(thing),
        "read": lambda: keeper.read(side, thing),
        "part": lambda: keeper.part(side, thing, ()),
        "put": lambda: keeper.put(side, thing, (), 1),
        "grow": lambda: keeper.grow(side, thing, (), 1),
        "drop": lambda: keeper.drop(thing),
        "kind_of": lambda: keeper.kind_of(thing),
    }


class KeeperTests:
    """Mixed into a test case that has new_keepers(): a list of fresh keepers."""

    def worths(self, keeper):
        """By number, the kind and the worth of each standing thing; each is read by both sides in turn."""
        return {thing: (keeper.kind_of(thing), keeper.read(thing & 1, thing)) for thing in keeper.standing()}

    def assert_refused_unchanged(self, keeper, refusal, asked, *handed):
        """It is refused with just this class, and the keeper tells the same afterwards."""
        standing, rows = keeper.standing(), plain_rows(keeper)
        self.assert_refused(refusal, asked, *handed)
        self.assertEqual(keeper.standing(), standing)
        self.assertEqual(plain_rows(keeper), rows)

    def test_a_new_keeper(self):
        for keeper in self.new_keepers():
            self.assertEqual(keeper.standing(), [])
            self.assertEqual(keeper.book(), [])

    def test_things_are_numbered_as_they_are_made(self):
        for keeper in self.new_keepers():
            self.assertEqual(keeper.make(0, NUM, 5), 0)
            self.assertEqual(keeper.make(1, TEXT, "a"), 1)
            self.assertEqual(keeper.share(0), 2)
            self.assertIsNone(keeper.drop(1))
            self.assertEqual(keeper.make(1, SHAPE, DOT), 3)
            self.assertIsNone(keeper.drop(3))
            self.assertEqual(keeper.share(2), 4)
            self.assertEqual(keeper.standing(), [0, 2, 4])

    def test_read_by_each_side(self):
        for keeper in self.new_keepers():
            for maker in (0, 1):
                for kind, worth in ((NUM, -5), (TEXT, "here"), (SHAPE, LABEL), (SHEET, PAGE), (MIXED, (70000, "x", (1, 2)))):
                    thing = keeper.make(maker, kind, worth)
                    self.assertEqual(keeper.kind_of(thing), kind)
                    for side in (0, 1, 0):
                        self.assertEqual(keeper.read(side, thing), worth)

    def test_parts_by_each_side(self):
        for keeper in self.new_keepers():
            for maker in (0, 1):
                for side in (0, 1):
                    thing = keeper.make(maker, SHEET, PAGE)
                    for path in paths(SHEET, PAGE):
                        self.assertEqual(keeper.part(side, thing, path), part_of(SHEET, PAGE, path))

    def test_put_by_each_side(self):
        for keeper in self.new_keepers():
            for maker in (0, 1):
                for side in (0, 1):
                    thing = keeper.make(maker, SHEET, PAGE)
                    for path, part in ((("title",), "two"), (("shapes", 0, "dot", "y"), 9), (("shapes", 1), TRACK),
                                       (("shapes",), (LABEL,)), ((), PAGE)):
                        expected = with_part(SHEET, keeper.read(maker, thing), path, part)
                        self.assertIsNone(keeper.put(side, thing, path, part))
                        self.assertEqual(keeper.read(1 - side, thing), expected)
                        self.assertEqual(keeper.read(side, thing), expected)

    def test_put_into_a_pick_by_another_name(self):
        for keeper in self.new_keepers():
            for side in (0, 1):
                thing = keeper.make(0, SHAPE, DOT)
                keeper.put(side, thing, ("label",), "new")
                self.assertEqual(keeper.read(0, thing), ("label", "new"))
                self.assert_refused_unchanged(keeper, NoPart, keeper.put, side, thing, ("dot", "x"), 1)
                self.assert_refused_unchanged(keeper, NoPart, keeper.part, side, thing, ("dot",))
                keeper.put(1 - side, thing, ("path",), (4,))
                keeper.grow(side, thing, ("path",), 5)
                self.assertEqual(keeper.read(1, thing), ("path", (4, 5)))

    def test_grown_by_each_side(self):
        for keeper in self.new_keepers():
            for side in (0, 1):
                thing = keeper.make(0, ROWS, ())
                self.assertIsNone(keeper.grow(side, thing, (), (1,)))
                keeper.grow(1 - side, thing, (0,), 2)
                keeper.grow(side, thing, (), ())
                keeper.grow(side, thing, (1,), 3)
                self.assertEqual(keeper.read(side, thing), ((1, 2), (3,)))
                self.assertEqual(keeper.read(1 - side, thing), ((1, 2), (3,)))

    def test_a_row_of_sixty_is_full(self):
        for keeper in self.new_keepers():
            for side in (0, 1):
                thing = keeper.make(side, ROW, (7,) * 59)
                keeper.grow(side, thing, (), 8)
                for asks in (0, 1):
                    self.assert_refused_unchanged(keeper, Full, keeper.grow, asks, thing, (), 9)
                    self.assert_refused_unchanged(keeper, NoPart, keeper.grow, asks, thing, (0,), 9)
                    self.assertEqual(keeper.read(asks, thing), (7,) * 59 + (8,))

    def test_no_part(self):
        for keeper in self.new_keepers():
            thing = keeper.make(0, SHEET, PAGE)
            for side in (1, 0):
                for path in (("x",), (0,), ("title", 0), ("shapes", 3), ("shapes", -1), ("shapes", 60), ("shapes", 0, "label"),
                             ("main", "dot", "x")):
                    self.assert_refused_unchanged(keeper, NoPart, keeper.part, side, thing, path)
                    self.assert_refused_unchanged(keeper, NoPart, keeper.grow, side, thing, path, 1)
                for path in (("x",), (0,), ("title", 0), ("shapes", 3), ("shapes", 60), ("main", "dot", "x")):
                    self.assert_refused_unchanged(keeper, NoPart, keeper.put, side, thing, path, 1)
                for path in ((), ("title",), ("shapes", 0), ("main",)):
                    self.assert_refused_unchanged(keeper, NoPart, keeper.grow, side, thing, path, 1)
                self.assertEqual(keeper.read(side, thing), PAGE)

    def test_a_thing_shared_and_one_of_the_two_changed(self):
        for keeper in self.new_keepers():
            for side in (0, 1):
                for changed in (0, 1):
                    one = keeper.make(side, SHEET, PAGE)
                    other = keeper.share(one)
                    pair = (one, other)
                    keeper.put(0, pair[changed], ("title",), "two")
                    self.assertEqual(keeper.read(1, pair[1 - changed]), PAGE)
                    self.assertEqual(keeper.read(1, pair[changed]), ("two",) + PAGE[1:])
                    keeper.grow(1, pair[1 - changed], ("shapes",), DOT)
                    self.assertEqual(keeper.read(0, pair[changed]), ("two",) + PAGE[1:])
                    self.assertEqual(keeper.read(0, pair[1 - changed]), with_more(SHEET, PAGE, ("shapes",), DOT))
                    self.assertEqual(keeper.kind_of(other), SHEET)

    def test_shared_and_put_as_a_whole(self):
        for keeper in self.new_keepers():
            for side in (0, 1):
                one = keeper.make(0, TEXT, "one")
                other, third = keeper.share(one), keeper.share(one)
                keeper.put(side, one, (), "two")
                self.assertEqual([keeper.read(1, thing) for thing in (one, other, third)], ["two", "one", "one"])
                keeper.put(side, third, (), "three")
                self.assertEqual([keeper.read(0, thing) for thing in (one, other, third)], ["two", "one", "three"])

    def test_shared_and_one_of_the_two_let_go(self):
        for keeper in self.new_keepers():
            one = keeper.make(0, SHAPE, LABEL)
            other = keeper.share(one)
            keeper.drop(one)
            self.assertEqual(keeper.read(1, other), LABEL)
            keeper.put(0, other, ("label",), "b")
            third = keeper.share(other)
            keeper.drop(other)
            self.assertEqual(keeper.read(1, third), ("label", "b"))
            self.assertEqual(keeper.standing(), [third])

    def test_a_refused_change_of_a_shared_thing(self):
        for keeper in self.new_keepers():
            one = keeper.make(0, ROW, tuple(range(60)))
            other = keeper.share(one)
            for side in (0, 1):
                self.assert_refused_unchanged(keeper, Full, keeper.grow, side, other, (), 1)
                self.assert_refused_unchanged(keeper, NoPart, keeper.put, side, one, (60,), 1)
                for thing in (one, other):
                    self.assertEqual(keeper.read(side, thing), tuple(range(60)))

    def test_no_thing(self):
        for keeper in self.new_keepers():
            for number in NO_NUMBERS + (0, 1, 2):
                for asked in deeds(keeper, 0, number).values():
                    self.assert_refused_unchanged(keeper, NoThing, asked)
            for number in range(4):
                keeper.make(number & 1, ROW, (number,))
            keeper.drop(1)
            keeper.drop(3)
            for number in NO_NUMBERS + (1, 3, 4, 5):
                for side in (0, 1):
                    for asked in deeds(keeper, side, number).values():
                        self.assert_refused_unchanged(keeper, NoThing, asked)
            self.assertEqual(self.worths(keeper), {0: (ROW, (0,)), 2: (ROW, (2,))})

    def test_no_thing_goes_ahead_of_no_part_and_full(self):
        for keeper in self.new_keepers():
            keeper.make(0, ROW, (1,) * 60)
            keeper.drop(0)
            for number in (0, 1, -1):
                self.assert_refused_unchanged(keeper, NoThing, keeper.part, 0, number, ("no", "part"))
                self.assert_refused_unchanged(keeper, NoThing, keeper.put, 1, number, (60,), 1)
                self.assert_refused_unchanged(keeper, NoThing, keeper.grow, 0, number, (), 1)

    def test_not_let_go_twice(self):
        for keeper in self.new_keepers():
            keeper.make(0, NUM, 1)
            keeper.drop(0)
            self.assert_refused_unchanged(keeper, NoThing, keeper.drop, 0)

    def test_the_book_row_by_row(self):
        for keeper in self.new_keepers():
            keeper.make(0, SHAPE, TRACK)
            keeper.make(1, ROW, ())
            keeper.share(0)
            keeper.read(0, 2)
            keeper.part(1, 0, ("path", 1))
            keeper.put(1, 2, ("dot",), (5, 6))
            keeper.put(0, 1, (), (8,))
            keeper.grow(1, 1, (), 9)
            keeper.kind_of(1)
            keeper.standing()
            keeper.drop(0)
            keeper.drop(2)
            self.assertEqual(plain_rows(keeper), [
                ("make", 0, 0), ("make", 1, 1), ("share", 0, 2), ("read", 0, 2), ("part", 1, 0), ("put", 1, 2), ("put", 0, 1),
                ("grow", 1, 1), ("drop", 0), ("drop", 2),
            ])

    def test_the_book_is_without_what_was_refused(self):
        for keeper in self.new_keepers():
            keeper.make(0, ROW, (1,) * 60)
            for side in (0, 1):
                for refusal, asked in (
                    (NoPart, lambda: keeper.part(side, 0, (60,))), (NoPart, lambda: keeper.put(side, 0, ("a",), 1)),
                    (NoPart, lambda: keeper.grow(side, 0, (0,), 1)), (Full, lambda: keeper.grow(side, 0, (), 1)),
                    (NoThing, lambda: keeper.read(side, 1)), (NoThing, lambda: keeper.share(1)), (NoThing, lambda: keeper.drop(1)),
                ):
                    self.assert_refused_unchanged(keeper, refusal, asked)
            self.assertEqual(plain_rows(keeper), [("make", 0, 0)])

    def test_told_lists_are_the_askers_own(self):
        for keeper in self.new_keepers():
            keeper.make(0, NUM, 1)
            keeper.make(1, NUM, 2)
            for asked in (keeper.standing, keeper.book):
                told = asked()
                kept = list(told)
                self.assertIs(type(told), list)
                told.reverse()
                told.append(None)
                self.assertEqual(asked(), kept)
                self.assertIsNot(asked(), asked())
            standing, book = keeper.standing(), keeper.book()
            keeper.drop(0)
            keeper.share(1)
            self.assertEqual(standing, [0, 1])
            self.assertEqual(book, [("make", 0, 0), ("make", 1, 1)])
            standing.clear()
            book.clear()
            self.assertEqual(keeper.standing(), [1, 2])
            for row in keeper.book():
                self.assertIsInstance(row, tuple)

    def test_two_keepers_side_by_side(self):
        for one, other in zip(self.new_keepers(), self.new_keepers()):
            one.make(0, NUM, 1)
            one.make(0, NUM, 2)
            self.assertEqual(other.standing(), [])
            self.assertEqual(other.book(), [])
            self.assertEqual(other.make(1, TEXT, "a"), 0)
            one.drop(0)
            self.assertEqual(other.read(0, 0), "a")
            self.assert_refused(NoThing, other.read, 0, 1)
            self.assertEqual(self.worths(one), {1: (NUM, 2)})

    def test_deeds_by_chance(self):
        for seed, keeper in enumerate(self.new_keepers()):
            chance = random.Random(seed)
            model = KeeperModel()
            for deed in range(150):
                do_by_chance(self, chance, keeper, model)
            self.assertEqual(self.worths(keeper), model.things)
            for thing in keeper.standing():
                keeper.drop(thing)
            self.assertEqual(keeper.standing(), [])


class KeeperModel:
    """What a keeper has to tell, worth by worth."""

    def __init__(self):
        self.things = {}
        self.made = 0
        self.rows = []

    def enter(self, kind, worth):
        self.things[self.made] = (kind, worth)
        self.made += 1
        return self.made - 1

    def make(self, side, kind, worth):
        thing = self.enter(kind, worth)
        self.rows.append(("make", side, thing))
        return thing

    def share(self, thing):
        new = self.enter(*self.things[thing])
        self.rows.append(("share", thing, new))
        return new

    def read(self, side, thing):
        self.rows.append(("read", side, thing))
        return self.things[thing][1]

    def part(self, side, thing, path):
        told = part_of(*self.things[thing], path)
        self.rows.append(("part", side, thing))
        return told

    def put(self, side, thing, path, worth):
        kind, old = self.things[thing]
        self.things[thing] = (kind, with_part(kind, old, path, worth))
        self.rows.append(("put", side, thing))

    def grow(self, side, thing, path, item):
        kind, old = self.things[thing]
        self.things[thing] = (kind, with_more(kind, old, path, item))
        self.rows.append(("grow", side, thing))

    def drop(self, thing):
        del self.things[thing]
        self.rows.append(("drop", thing))


def some_path(chance, kind, worth):
    """A path into the worth; now and then one that leads nowhere."""
    path = chance.choice(paths(kind, worth))
    if chance.randrange(6) == 0:
        path += (chance.choice(("a", "ab", "b", "zz", "c", 0, 1, 60, -1)),)
    return path


def some_deed(chance, model):
    """A deed with what is handed to it, by chance, that fits the things of the model."""
    side = chance.randrange(2)
    if not model.things or (len(model.things) < 6 and chance.randrange(4) == 0):
        kind = kind_by_chance(chance, 4)
        return "make", (side, kind, worth_by_chance(chance, kind))
    thing = chance.choice(sorted(model.things))
    kind, worth = model.things[thing]
    deed = chance.choice(("share", "read", "part", "put", "put", "grow", "grow", "drop"))
    if deed in ("share", "drop"):
        return deed, (thing,)
    if deed == "read":
        return deed, (side, thing)
    path = some_path(chance, kind, worth)
    if deed == "part":
        return deed, (side, thing, path)
    if deed == "grow":
        ends = [one for one in paths(kind, worth) if part_kind(kind, one)[0] == "row"]
        path = chance.choice(ends) if ends and chance.randrange(5) else path
    return deed, (side, thing, path, new_part(chance, deed, kind, path))


def new_part(chance, deed, kind, path):
    """A worth that may be put, or added, at the path; anything where there is no such part."""
    try:
        inner = part_kind(kind, path)
    except NoPart:
        return 0
    if deed == "grow":
        return worth_by_chance(chance, inner[1]) if inner[0] == "row" else 0
    return worth_by_chance(chance, inner)


def do_by_chance(case, chance, keeper, model):
    """Do one deed by chance with the keeper and the model, and look that both tell the same."""
    deed, handed = some_deed(chance, model)
    try:
        expected = getattr(model, deed)(*handed)
    except GateError as error:
        case.assert_refused(type(error), getattr(keeper, deed), *handed)
    else:
        case.assertEqual(getattr(keeper, deed)(*handed), expected)
    case.assertEqual(keeper.standing(), sorted(model.things))
    case.assertEqual(plain_rows(keeper), model.rows)
