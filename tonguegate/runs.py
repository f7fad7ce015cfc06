"""Runs of programs: the plain one, and what every run does with its keeper."""

from tonguegate.deeds import Run, call, drop_all
from tonguegate.errors import NoDoor, NoProgram, NoWorths
from tonguegate.keepers import PlainKeeper
from tonguegate.programs import is_program
from tonguegate.spots import Body, Spot
from tonguegate.worths import is_worth


def run_plain(program, door, worths, steps):
    """Run the program with bare worths: a tuple (said, end, shelves, book); NoProgram, then NoDoor, then NoWorths."""
    return run_with(PlainKeeper(), program, door, worths, steps)


def run_with(keeper, program, door, worths, steps):
    """Run the program with a new keeper: a tuple (said, end, shelves, book); refused as the plain run is."""
    look_at_asked(program, door, worths)
    doors = {paper[0]: (paper, body) for paper, body in program[0]}
    run = Run(keeper, doors, make_shelves(keeper, program[1]), steps)
    end = call_from_outside(run, door, worths)
    return (run.said, end, read_shelves(run, program[1]), keeper.book())


def look_at_asked(program, door, worths):
    """Refuse what cannot be run: NoProgram, then NoDoor, then NoWorths."""
    if not is_program(program):
        raise NoProgram("no good program")
    papers = {paper[0]: paper for paper, body in program[0]}
    if door not in papers:
        raise NoDoor("no door has this name")
    places = papers[door][2]
    if len(worths) != len(places):
        raise NoWorths("not as many worths as places")
    if not all([is_worth(kind, worth) for (name, way, kind), worth in zip(places, worths)]):
        raise NoWorths("not a worth of its place's kind")


def make_shelves(keeper, shelves):
    """Make the shelves' things: by side and then by name, their spots."""
    spots = {0: {}, 1: {}}
    for name, side, kind, worth in shelves:
        spots[side][name] = Spot(name, keeper.make(side, kind, worth), False)
    return spots


def call_from_outside(run, door, worths):
    """Make the worths, call the door with them and let all go that is left of it: how the run ended."""
    paper = run.doors[door][0]
    outside = Body(1 - paper[1], {}, 0)
    for (name, way, kind), worth in zip(paper[2], worths):
        outside.spots[name] = Spot(name, run.keeper.make(outside.side, kind, worth), False)
    end = end_of(run, outside.side, call(run, outside, door, [name for name, way, kind in paper[2]]))
    drop_all(run, outside)
    return end


def end_of(run, side, outcome):
    """How the run ended, by what the first call told; its result is read by the side and let go."""
    if outcome[0] != "back":
        return outcome
    thing = outcome[1]
    if thing is None:
        return ("done",)
    worth = run.keeper.read(side, thing)
    run.keeper.drop(thing)
    return ("back", worth)


def read_shelves(run, shelves):
    """Read and let go the shelves that stand: a list of tuples (name, side, worth), None for one that does not."""
    told = []
    for name, side, kind, first in shelves:
        thing = run.shelves[side][name].taken()
        worth = None
        if thing is not None:
            worth = run.keeper.read(side, thing)
            run.keeper.drop(thing)
        told.append((name, side, worth))
    return told
