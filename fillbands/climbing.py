"""Ways up the tree, from unknowns to their parents, without going through all of long zones."""

from fillbands.elimination import size_of
from fillbands.zones import MOST_OFFSET


class Piece:
    """Unknowns that a climb passes: some within a lap, and these again, moved on, in the laps behind it."""

    def __init__(self, first, lap, laps):
        self.first = first
        self.lap = lap
        self.laps = laps

    def many(self):
        return len(self.first) * self.laps

    def nth(self, number):
        """The unknown of the piece that has so many lesser ones in it."""
        laps, at = divmod(number, len(self.first))
        return self.first[at] + laps * self.lap

    def has(self, unknown):
        behind = [unknown - place for place in self.first if unknown >= place]
        return any([more % self.lap == 0 and more // self.lap < self.laps for more in behind])

    def room(self, elimination):
        """How many unknowns the columns of the piece have together."""
        return self.laps * sum([size_of(elimination.mask(unknown)) for unknown in self.first])


class Climb:
    """Goes from places up the tree, always on from the least unknown where it stands.

    So it passes the places and all their ancestors once, in their sequence.
    heads: the unknowns where it stands, ascending; met: the last unknown at
    which two ways came together, None if none have.
    """

    def __init__(self, elimination, places):
        self._elimination = elimination
        self.heads = sorted(set(places))
        self.met = None

    def pass_on(self):
        """Go on from the least head, through as many laps as are alike; return what is passed."""
        stretch = self._elimination.stretch(self.heads[0])
        if stretch is None or not stretch.has_a_lap_from(self.heads[0]):
            return Piece([self._pass_one()], 1, 1)
        return self._pass_laps(stretch)

    def _pass_one(self):
        unknown = self.heads[0]
        rest = self.heads[1:]
        parent = self._elimination.parent(unknown)
        if parent in rest:
            self.met = parent
        elif parent is not None:
            rest = sorted(rest + [parent])
        self.heads = rest
        return unknown

    def _pass_laps(self, stretch):
        """Pass a lap, and further ones at once if it leads to the same heads, moved on.

        Heads beyond the reach of a lap play no part in it, so only the heads
        within it are moved on, as long as the others stay beyond.
        """
        begin = self.heads[0]
        reach = begin + stretch.lap + MOST_OFFSET
        near = [head for head in self.heads if head < reach]
        far = [head for head in self.heads if head >= reach]
        passed = []
        while self.heads and self.heads[0] < begin + stretch.lap:
            passed.append(self._pass_one())
        laps = 1
        if self.heads == [head + stretch.lap for head in near] + far:
            laps = (stretch.end - begin) // stretch.lap
            if far:
                laps = min(laps, (far[0] - reach) // stretch.lap + 1)
            self.heads = [head + laps * stretch.lap for head in near] + far
        return Piece(passed, stretch.lap, laps)


def passed_from(elimination, places):
    """The pieces with some places and all their ancestors, ascending."""
    climb = Climb(elimination, places)
    found = []
    while climb.heads:
        found.append(climb.pass_on())
    return found


def nth_passed(elimination, places, number):
    """The one of some places and their ancestors that has so many lesser ones, None if there is none."""
    climb = Climb(elimination, places)
    while climb.heads:
        piece = climb.pass_on()
        if number < piece.many():
            return piece.nth(number)
        number -= piece.many()
    return None


def many_passed(elimination, places):
    """How many unknowns some places and their ancestors are."""
    return sum([piece.many() for piece in passed_from(elimination, places)])


def meeting_of(elimination, one, other):
    """The least unknown that is each of two or an ancestor of it, None if there is none."""
    if one == other:
        return one
    climb = Climb(elimination, [one, other])
    while len(climb.heads) > 1:
        climb.pass_on()
    return climb.met
