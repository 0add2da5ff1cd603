"""What the document defines, worked out unknown by unknown, and systems to try it on."""

from itertools import combinations
from math import gcd
from random import Random

from fillbands.systems import System

GREAT = 10 ** 29
POOLS = [
    list(range(1, 17)),
    list(range(1, 5)),
    list(range(12, 17)),
    [2, 4, 6, 8],
    [4, 8, 12, 16],
    [3, 6, 9, 15],
    [5, 10, 15],
    [15, 16],
    [16],
]


def coupled_pairs(borders, zones):
    """All couplings (low, high) of point 5, for zones of small counts."""
    told = [(offsets, touches) for count, offsets, touches in zones for _ in range(count)]
    n = len(told)
    pairs = set()
    for low, (offsets, touches) in enumerate(told):
        pairs.update((low, low + offset) for offset in offsets if low + offset < n)
        pairs.update((low, n + touch) for touch in touches)
    return pairs


def eliminated(total, pairs):
    """All columns by point 6, and for each pair that is ever coupled when it becomes so."""
    near = [set() for _ in range(total)]
    for low, high in pairs:
        near[low].add(high)
        near[high].add(low)
    first = {pair: None for pair in pairs}
    columns = []
    for turn in range(total):
        column = sorted(unknown for unknown in near[turn] if unknown > turn)
        columns.append(column)
        for low, high in combinations(column, 2):
            if (low, high) not in first:
                first[low, high] = turn
                near[low].add(high)
                near[high].add(low)
    return columns, first


def some_list(random, pool, most):
    return sorted(random.sample(pool, random.randint(0, min(most, len(pool)))))


def some_zone(random, borders, count):
    offsets = some_list(random, random.choice(POOLS), 6)
    touches = some_list(random, list(range(borders)), borders) if random.random() < 0.6 else []
    return (count, offsets, touches)


def some_zones(random, borders, number, most):
    return [some_zone(random, borders, random.randint(1, most)) for _ in range(number)]


def some_systems(seed, many, most):
    """Many small systems of one to four zones, as (borders, zones)."""
    random = Random(seed)
    found = []
    for at in range(many):
        borders = at % 7
        number = at // 7 % 4 + 1
        found.append((borders, some_zones(random, borders, number, max(1, most // number))))
    return found


EDGES = [
    (0, [(1, [], [])]),
    (0, [(1, [16], [])]),
    (6, [(1, [1], [0, 1, 2, 3, 4, 5])]),
    (3, [(5, [], [])]),
    (2, [(4, [], [1]), (4, [], [0]), (3, [], [0, 1])]),
    (0, [(9, [], [])]),
    (1, [(2, [3, 5], [0]), (1, [], []), (1, [9], []), (6, [1], [])]),
    (0, [(3, [16], []), (4, [], []), (20, [1, 16], [])]),
    (0, [(17, [16], [])]),
    (0, [(16, [16], [])]),
    (2, [(3, [2], [0]), (4, [1], []), (2, [], [1])]),
    (4, [(2, [], [0, 1]), (2, [], [1, 2]), (2, [], [2, 3]), (30, [4, 8], [])]),
]


def step_of(zone):
    """Columns within a long zone repeat at the latest after so many unknowns, by point 11."""
    return max(1, gcd(*zone[1]))


class Shortened:
    """A system with great zones beside a small one whose great zones are shorter.

    A great count, and the short one in its place, leave the same remainder by
    the step of the zone. So unknowns near a bound go with those as near to it,
    and unknowns far from all bounds with those a number of steps away.
    """

    # Far more than what columns need until they repeat.
    LEAST = 160

    def __init__(self, borders, zones):
        self.great = System(borders, zones)
        self.short_zones = [self._short(zone) for zone in zones]
        self.short = System(borders, self.short_zones)
        self.bounds = []
        great = short = 0
        for zone, short_zone in zip(zones, self.short_zones):
            self.bounds.append((short, short_zone[0], great, zone[0], step_of(zone)))
            short += short_zone[0]
            great += zone[0]

    def _short(self, zone):
        count, offsets, touches = zone
        if count < 2 * self.LEAST:
            return zone
        return (self.LEAST + (count - self.LEAST) % step_of(zone), offsets, touches)

    def moved(self, unknown):
        """The unknown of the great system that is as near to a bound as one of the short one."""
        if unknown >= self.short.length:
            return unknown - self.short.length + self.great.length
        for short, short_count, great, count, _ in self.bounds:
            if unknown < short + short_count // 2:
                return unknown - short + great
            if unknown < short + short_count:
                return unknown - short - short_count + great + count
        raise AssertionError(unknown)

    def beside(self, unknowns, short, great):
        """Unknowns around or behind a short one, as they stand to the great one in its place."""
        return [self.moved(one) if one >= self.short.length else one - short + great for one in unknowns]

    def places(self, random):
        """Pairs of a short unknown and a great one: at all bounds, deep in zones, at the border."""
        border = range(self.short.length, self.short.unknowns)
        found = [(unknown, self.moved(unknown)) for unknown in border]
        for short, short_count, great, count, step in self.bounds:
            near = range(short, short + short_count)
            if short_count < count:
                near = [*near[:40], *near[-40:]]
                for _ in range(12):
                    place = random.randint(1000, count - 1000)
                    like = short + 80 + (place - 80) % step
                    found.append((like, great + place))
            found.extend((unknown, self.moved(unknown)) for unknown in near)
        return found


def great_systems(seed, many):
    """Many systems with great zones, small ones between, each with a shortened one."""
    random = Random(seed)
    found = []
    for at in range(many):
        borders = at % 7
        zones = []
        for _ in range(random.randint(1, 6)):
            count = random.choice([GREAT, GREAT - random.randint(1, 999), random.randint(1, 30)])
            zones.append(some_zone(random, borders, count))
        found.append(Shortened(borders, zones))
    return found
