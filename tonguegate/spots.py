"""What names stand for in a run, and the looks at them."""

from tonguegate.faults import Fault


class Spot:
    """A name, or a shelf, and the thing for which it stands, None where it stands for none."""

    def __init__(self, name, thing, borrowed):
        self.name = name
        self.thing = thing
        # Whether the thing is one that is lent or leased to the body, so that the body never lets it go.
        self.borrowed = borrowed
        # How often the thing is lent, and whether it is leased, through this name.
        self.lent = 0
        self.leased = False

    def look_for_reading(self):
        """Fault where the name stands for none or is leased."""
        if self.thing is None:
            raise Fault(("gone", self.name))
        if self.leased:
            raise Fault(("held", self.name))

    def look_for_changing(self):
        """Fault as for reading, and where the name is lent; so it is looked at for taking, too."""
        self.look_for_reading()
        if self.lent > 0:
            raise Fault(("held", self.name))

    def look_for_placing(self):
        """Fault where the name stands for a thing that is lent or leased."""
        if self.leased or self.lent > 0:
            raise Fault(("held", self.name))

    def taken(self):
        """Stand for none: the thing for which it stood."""
        thing = self.thing
        self.thing = None
        return thing


class Body:
    """A door's body that is being done, with the bodies within it: its side and its names."""

    def __init__(self, side, shelves, depth):
        self.side = side
        # How many door's bodies are within one another, this one counted in.
        self.depth = depth
        # By name, the spots of the shelves of the side, which all bodies of it share.
        self.shelves = shelves
        self.spots = {}

    def spot(self, name):
        """The spot of the name."""
        if name in self.shelves:
            return self.shelves[name]
        if name not in self.spots:
            self.spots[name] = Spot(name, None, False)
        return self.spots[name]

    def own_things(self):
        """The things for which names stand, but those lent or leased to the body, in the order of the names."""
        spots = [self.spots[name] for name in sorted(self.spots)]
        return [spot.thing for spot in spots if spot.thing is not None and not spot.borrowed]


class Loans:
    """What is lent and leased by one call, until it ends."""

    def __init__(self):
        self.lenders = []
        self.lessors = []

    def lend(self, spot):
        """Count the spot as lent once more."""
        spot.lent += 1
        self.lenders.append(spot)

    def lease(self, spot):
        """Count the spot as leased."""
        spot.leased = True
        self.lessors.append(spot)

    def end(self):
        """Count what was lent and leased as so no longer."""
        for spot in self.lenders:
            spot.lent -= 1
        for spot in self.lessors:
            spot.leased = False
