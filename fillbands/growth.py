"""Levels, and how many descendants there are, told without going through all of long zones.

The weight of an unknown is how many descendants it has, and 1 for itself.
"""

from fillbands.elimination import lowest
from fillbands.zones import MOST_OFFSET, standing_at


class Handed:
    """What the unknowns so far hand on to their parents.

    By the bits of masks, for each of the next 16 inner unknowns and each border
    unknown: the greatest level of its children so far, 0 if there are none, and
    their weights together.
    """

    def __init__(self, borders):
        self.levels = [0] * (MOST_OFFSET + borders)
        self.weights = [0] * (MOST_OFFSET + borders)

    def take_inner(self, mask):
        """The level and the weight of the next inner unknown, whose column has this mask."""
        level = self.levels.pop(0) + 1
        weight = self.weights.pop(0) + 1
        self.levels.insert(MOST_OFFSET - 1, 0)
        self.weights.insert(MOST_OFFSET - 1, 0)
        self._hand_on(mask, level, weight)
        return level, weight

    def take_border(self, touch, mask):
        """The level and the weight of a border unknown, whose column has this mask."""
        level = self.levels[MOST_OFFSET + touch] + 1
        weight = self.weights[MOST_OFFSET + touch] + 1
        self._hand_on(mask, level, weight)
        return level, weight

    def _hand_on(self, mask, level, weight):
        if mask:
            parent = lowest(mask)
            self.levels[parent] = max(self.levels[parent], level)
            self.weights[parent] += weight

    def take_all(self, stretch, begin, end):
        """Levels and weights of the unknowns from begin to end - 1 of a stretch, as tuples."""
        return [self.take_inner(mask) for mask in stretch.masks_between(begin, end)]

    def take_laps(self, stretch, begin, laps):
        """As take_all for a lap from begin on; then go on for so many laps that add as much as it did."""
        levels = list(self.levels)
        weights = list(self.weights)
        taken = self.take_all(stretch, begin, begin + stretch.lap)
        self.levels = gone_on(levels, self.levels, laps)
        self.weights = gone_on(weights, self.weights, laps)
        return taken


def gone_on(before, now, laps):
    """The numbers so many laps later, if they go on as they did in the last lap."""
    return [number + laps * (number - earlier) for earlier, number in zip(before, now)]


class Course:
    """Numbers of which the first ones are told, and the last lap of these comes again and again.

    Each time they are more by as much as in the last lap they are more than in
    the lap before it. If all numbers are told, lap is 0.
    """

    def __init__(self, told, count, lap):
        self.told = told
        self.count = count
        self.lap = lap

    def at(self, place):
        if place < len(self.told):
            return self.told[place]
        again = len(self.told) - self.lap
        laps, more = divmod(place - again, self.lap)
        return self.told[again + more] + laps * self._gain(again + more)

    def _gain(self, place):
        return self.told[place] - self.told[place - self.lap]

    def greatest(self):
        last = [self.at(place) for place in range(self.count - self.lap, self.count)]
        return max(self.told + last)

    def having(self, number):
        """Where a number stands: tuples of a first place and how many there are from it on."""
        again = len(self.told) - self.lap
        found = [(place, 1) for place in range(again) if self.told[place] == number]
        found.extend([self._having_from(place, number) for place in range(again, len(self.told))])
        return [(first, many) for first, many in found if many]

    def _having_from(self, place, number):
        """As having, at a place in the last lap and those that are whole laps behind it."""
        gain = self._gain(place)
        places = (self.count - 1 - place) // self.lap + 1
        more = number - self.told[place]
        if gain == 0:
            return (place, places) if more == 0 else (place, 0)
        laps, rest = divmod(more, gain)
        is_there = rest == 0 and 0 <= laps < places
        return (place + laps * self.lap, 1) if is_there else (place, 0)


class Rise:
    """The levels and weights of the unknowns of a stretch."""

    def __init__(self, begin, levels, weights):
        self.begin = begin
        self.levels = levels
        self.weights = weights


def risen(stretch, handed):
    """The rise of a stretch; handed is what is handed on to it, then what it hands on.

    From number tail on, an unknown of a zone with offsets has one child in its
    zone, the unknown before it on its path, and one of a zone without offsets
    has none. No child is more than 16 places away. So from 16 places behind
    tail on, levels and weights only go on along the paths, from lap to lap.
    """
    count = stretch.end - stretch.begin
    steady = stretch.begin + stretch.tail + MOST_OFFSET
    last = steady + stretch.lap
    laps, rest = divmod(stretch.end - last - stretch.lap, stretch.lap)
    if laps < 0:
        return rise_of(stretch.begin, handed.take_all(stretch, stretch.begin, stretch.end), count, 0)
    taken = handed.take_all(stretch, stretch.begin, last)
    taken.extend(handed.take_laps(stretch, last, laps))
    handed.take_all(stretch, stretch.end - rest, stretch.end)
    return rise_of(stretch.begin, taken, count, stretch.lap)


def rise_of(begin, taken, count, lap):
    levels = Course([level for level, _ in taken], count, lap)
    weights = Course([weight for _, weight in taken], count, lap)
    return Rise(begin, levels, weights)


class Growth:
    """The levels and the numbers of descendants of all unknowns, told by their columns."""

    def __init__(self, elimination):
        handed = Handed(len(elimination.last_masks))
        self._rises = [risen(stretch, handed) for stretch in elimination.stretches]
        self._begins = [rise.begin for rise in self._rises]
        self._inner = elimination.stretches[-1].end
        taken = [handed.take_border(touch, mask) for touch, mask in enumerate(elimination.last_masks)]
        self._last = rise_of(self._inner, taken, len(taken), 0)

    def _rise(self, unknown):
        if unknown >= self._inner:
            return self._last
        return self._rises[standing_at(self._begins, unknown)]

    def level(self, unknown):
        rise = self._rise(unknown)
        return rise.levels.at(unknown - rise.begin)

    def descendants(self, unknown):
        rise = self._rise(unknown)
        return rise.weights.at(unknown - rise.begin) - 1

    def greatest_level(self):
        return max([rise.levels.greatest() for rise in self._rises] + self._last.levels.told)

    def having(self, number):
        """Which unknowns have a level: tuples of the first one and how many there are from it on."""
        found = []
        for rise in self._rises + [self._last]:
            found.extend([(rise.begin + first, many) for first, many in rise.levels.having(number)])
        return found
