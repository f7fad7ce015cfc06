"""The rules of good programs."""

from tonguegate.errors import NoPart
from tonguegate.forms import has_program_form
from tonguegate.kinds import part_kind

# By the way of the place whose name it is, the ways by which a call may not hand a name on.
BARRED_WAYS = {"copy": (), "give": (), "lend": ("give", "lease"), "lease": ("give",)}


def is_program(thing):
    """Whether anything is a good program."""
    if not has_program_form(thing):
        return False
    doors, shelves = thing
    papers = {paper[0]: paper for paper, body in doors}
    if len(papers) != len(doors) or len({(name, side) for name, side, kind, worth in shelves}) != len(shelves):
        return False
    return all([is_good_door(papers, shelves, paper, body) for paper, body in doors])


def is_good_door(papers, shelves, paper, body):
    """Whether a door keeps the rules among these papers and shelves."""
    around = {name: kind for name, side, kind, worth in shelves if side == paper[1]}
    if any([name in around for name, way, kind in paper[2]]):
        return False
    return is_good_body(Scope(papers, paper, around), body)


class Scope:
    """What is known of names while the body of one door is gone through."""

    def __init__(self, papers, paper, around):
        self.papers = papers
        self.result = paper[3]
        self.ways = {name: way for name, way, kind in paper[2]}
        self.kinds = dict(around)
        for name, way, kind in paper[2]:
            self.kinds[name] = kind

    def knows(self, name):
        """Whether it is a place, a shelf of the side or made ahead."""
        return name in self.kinds

    def is_own(self, name):
        """Whether the name's thing is not one that is lent or leased to the door."""
        return self.ways.get(name) not in ("lend", "lease")

    def may_make(self, name, kind):
        """Whether a statement may make the name with this kind; what is made first fixes the name's kind."""
        if not self.is_own(name):
            return False
        return self.kinds.setdefault(name, kind) == kind

    def may_hand(self, name, place):
        """Whether a call may hand the name to this place of a paper."""
        if not self.knows(name) or self.kinds[name] != place[2]:
            return False
        return place[1] not in BARRED_WAYS[self.ways.get(name, "copy")]


def is_good_body(scope, body):
    """Whether the statements of a body keep the rules, gone through in order."""
    for statement in body:
        rule = RULES[statement[0]]
        if not rule(scope, statement):
            return False
    return True


def is_good_new(scope, statement):
    """Whether new keeps the rules."""
    word, name, kind, worth = statement
    return scope.may_make(name, kind)


def is_good_copy(scope, statement):
    """Whether copy keeps the rules."""
    word, name, source = statement
    return scope.knows(source) and scope.may_make(name, scope.kinds[source])


def is_good_part(scope, statement):
    """Whether part keeps the rules."""
    word, name, source, path = statement
    if not scope.knows(source):
        return False
    kind = kind_at(scope.kinds[source], path)
    return kind is not None and scope.may_make(name, kind)


def kind_at(kind, path):
    """The kind at the path; None where there is no such part."""
    try:
        return part_kind(kind, path)
    except NoPart:
        return None


def is_good_put(scope, statement):
    """Whether put keeps the rules."""
    word, target, path, name = statement
    if not is_good_change(scope, target, name):
        return False
    return kind_at(scope.kinds[target], path) == scope.kinds[name]


def is_good_add(scope, statement):
    """Whether add keeps the rules."""
    word, target, path, name = statement
    if not is_good_change(scope, target, name):
        return False
    return kind_at(scope.kinds[target], path) == ("row", scope.kinds[name])


def is_good_change(scope, target, name):
    """Whether both names of a put or an add are known, and the target may be changed."""
    return scope.knows(target) and scope.knows(name) and scope.ways.get(target) != "lend"


def is_good_drop(scope, statement):
    """Whether drop keeps the rules."""
    return scope.knows(statement[1]) and scope.is_own(statement[1])


def is_good_say(scope, statement):
    """Whether say keeps the rules."""
    return scope.knows(statement[1])


def is_good_call(scope, statement):
    """Whether call keeps the rules."""
    word, target, door, names = statement
    if door not in scope.papers:
        return False
    places, result = scope.papers[door][2:]
    if len(names) != len(places):
        return False
    if not all([scope.may_hand(handed, place) for handed, place in zip(names, places)]):
        return False
    return target is None or (result is not None and scope.may_make(target, result))


def is_good_same(scope, statement):
    """Whether same keeps the rules, its bodies too."""
    word, one, other, first, second = statement
    if not scope.knows(one) or not scope.knows(other) or scope.kinds[one] != scope.kinds[other]:
        return False
    return is_good_body(scope, first) and is_good_body(scope, second)


def is_good_fail(scope, statement):
    """Whether fail keeps the rules: its form is all that they ask."""
    return True


def is_good_try(scope, statement):
    """Whether the bodies of try keep the rules."""
    word, first, second = statement
    return is_good_body(scope, first) and is_good_body(scope, second)


def is_good_back(scope, statement):
    """Whether back keeps the rules."""
    name = statement[1]
    if not scope.knows(name) or not scope.is_own(name):
        return False
    return scope.result is not None and scope.kinds[name] == scope.result


RULES = {
    "new": is_good_new,
    "copy": is_good_copy,
    "part": is_good_part,
    "put": is_good_put,
    "add": is_good_add,
    "drop": is_good_drop,
    "say": is_good_say,
    "call": is_good_call,
    "same": is_good_same,
    "fail": is_good_fail,
    "try": is_good_try,
    "back": is_good_back,
}
