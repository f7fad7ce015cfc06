"""The statements of a running program, done one by one, and the calls of doors."""

from tonguegate.errors import Full, NoPart
from tonguegate.faults import Fault, Stopped
from tonguegate.kinds import part_kind
from tonguegate.spots import Body, Loans, Spot

MOST_BODIES = 8


class Run:
    """What the bodies of one run share."""

    def __init__(self, keeper, doors, shelves, steps):
        self.keeper = keeper
        # By name, the paper and the body of each door.
        self.doors = doors
        # By side and then by name, the spots of the shelves.
        self.shelves = shelves
        self.steps = steps
        self.begun = 0
        self.said = []

    def begin(self):
        """Begin one more statement; Stopped where as many as told have begun."""
        if self.begun >= self.steps:
            raise Stopped("another statement was to begin")
        self.begun += 1

    def place(self, spot, thing):
        """Place the thing at the spot: what stood there is let go."""
        if spot.thing is not None:
            self.keeper.drop(spot.thing)
        spot.thing = thing


def do_body(run, body, statements):
    """Do the statements in order: the thing that one of them gives back, None where none does."""
    for statement in statements:
        run.begin()
        result = do_statement(run, body, statement)
        if result is not None:
            return result
    return None


def do_statement(run, body, statement):
    """Do one statement: the thing that it gives back, or None; what the keeper refuses is a fault."""
    deed = DEEDS[statement[0]]
    try:
        return deed(run, body, statement)
    except NoPart:
        raise Fault(("nopart",)) from None
    except Full:
        raise Fault(("full",)) from None


def do_new(run, body, statement):
    """Make a thing at a name."""
    word, name, kind, worth = statement
    spot = body.spot(name)
    spot.look_for_placing()
    run.place(spot, run.keeper.make(body.side, kind, worth))


def do_copy(run, body, statement):
    """Share the thing of one name at another one."""
    word, name, source = statement
    there = body.spot(source)
    spot = body.spot(name)
    there.look_for_reading()
    spot.look_for_placing()
    run.place(spot, run.keeper.share(there.thing))


def do_part(run, body, statement):
    """Make a thing of a part of another one."""
    word, name, source, path = statement
    there = body.spot(source)
    spot = body.spot(name)
    there.look_for_reading()
    spot.look_for_placing()
    worth = run.keeper.part(body.side, there.thing, path)
    kind = part_kind(run.keeper.kind_of(there.thing), path)
    run.place(spot, run.keeper.make(body.side, kind, worth))


def do_put(run, body, statement):
    """Exchange a part of a thing for the worth of another one."""
    word, target, path, name = statement
    spot, worth = looked_for_change(run, body, target, name)
    run.keeper.put(body.side, spot.thing, path, worth)


def do_add(run, body, statement):
    """Give a row of a thing one more item, the worth of another thing."""
    word, target, path, name = statement
    spot, worth = looked_for_change(run, body, target, name)
    run.keeper.grow(body.side, spot.thing, path, worth)


def looked_for_change(run, body, target, name):
    """The spot of the target, looked at for changing, and the worth of the name, which is read."""
    there = body.spot(name)
    spot = body.spot(target)
    there.look_for_reading()
    spot.look_for_changing()
    return (spot, run.keeper.read(body.side, there.thing))


def do_drop(run, body, statement):
    """Let the thing of a name go."""
    spot = body.spot(statement[1])
    spot.look_for_changing()
    run.keeper.drop(spot.taken())


def do_say(run, body, statement):
    """Say the worth of a name's thing."""
    spot = body.spot(statement[1])
    spot.look_for_reading()
    run.said.append((body.side, run.keeper.read(body.side, spot.thing)))


def do_call(run, body, statement):
    """Call a door, and place its result or let it go."""
    word, target, door, names = statement
    outcome = call(run, body, door, names)
    if outcome[0] == "fault":
        raise Fault(outcome[1])
    if outcome[0] == "stopped":
        raise Stopped("the called door's body was stopped")
    result = outcome[1]
    if target is not None:
        place_result(run, body.spot(target), result)
    elif result is not None:
        run.keeper.drop(result)


def place_result(run, spot, result):
    """Place the result of a call at the spot; where this is a fault it is let go."""
    try:
        spot.look_for_placing()
    except Fault:
        run.keeper.drop(result)
        raise
    run.place(spot, result)


def do_same(run, body, statement):
    """Do the one body where two worths are equal, else the other one."""
    word, one, other, first, second = statement
    spots = (body.spot(one), body.spot(other))
    for spot in spots:
        spot.look_for_reading()
    worths = [run.keeper.read(body.side, spot.thing) for spot in spots]
    return do_body(run, body, first if worths[0] == worths[1] else second)


def do_fail(run, body, statement):
    """Come to a fault."""
    raise Fault(("fail", statement[1]))


def do_try(run, body, statement):
    """Do the first body, and the second one where a fault ends it."""
    word, first, second = statement
    try:
        return do_body(run, body, first)
    except Fault:
        # The second body is done below, outside of this handler: its own faults are not held up here.
        pass
    return do_body(run, body, second)


def do_back(run, body, statement):
    """Take the thing of a name: it is given back."""
    spot = body.spot(statement[1])
    spot.look_for_changing()
    return spot.taken()


DEEDS = {
    "new": do_new,
    "copy": do_copy,
    "part": do_part,
    "put": do_put,
    "add": do_add,
    "drop": do_drop,
    "say": do_say,
    "call": do_call,
    "same": do_same,
    "fail": do_fail,
    "try": do_try,
    "back": do_back,
}


def call(run, body, door, names):
    """Call the door with these names of the body.

    Told is ("back", thing), with None where there is no result, ("fault", fault) or ("stopped",).
    """
    paper, statements = run.doors[door]
    called = Body(paper[1], run.shelves[paper[1]], body.depth + 1)
    loans = Loans()
    try:
        if called.depth > MOST_BODIES:
            raise Fault(("deep",))
        for name, (place, way, kind) in zip(names, paper[2]):
            called.spots[place] = handed(run, loans, body.spot(name), place, way)
        outcome = ("back", do_door(run, called, paper, statements))
    except Fault as why:
        outcome = ("fault", why.fault)
    except Stopped:
        outcome = ("stopped",)
    drop_all(run, called)
    loans.end()
    return outcome


def handed(run, loans, spot, place, way):
    """The spot of a called door's place, to which the thing at the caller's spot is handed by the way."""
    if way == "copy":
        spot.look_for_reading()
        return Spot(place, run.keeper.share(spot.thing), False)
    if way == "give":
        spot.look_for_changing()
        return Spot(place, spot.taken(), False)
    if way == "lend":
        spot.look_for_reading()
        loans.lend(spot)
    else:
        spot.look_for_changing()
        loans.lease(spot)
    return Spot(place, spot.thing, True)


def do_door(run, body, paper, statements):
    """Do the body of a door: its result, None where the paper has none."""
    result = do_body(run, body, statements)
    if result is None and paper[3] is not None:
        raise Fault(("noback",))
    return result


def drop_all(run, body):
    """Let go the things for which names of the body stand, in the order of the names."""
    for thing in body.own_things():
        run.keeper.drop(thing)
