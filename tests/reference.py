"""What the document defines, worked out unknown by unknown, and systems to try it on."""

from functools import lru_cache
from itertools import combinations
from math import gcd
from random import Random

from fillbands.systems import System

GREAT = 10 ** 29
POOLS = [
    list(range(1, 17)),
    list(range(1, 5)),
    list(range(12, 17)),
    [2, 4, 6, 8],
    [4, 8, 12, 16],
    [3, 6, 9, 15],
    [5, 10, 15],
    [15, 16],
    [16],
]


def coupled_pairs(borders, zones):
    """All couplings (low, high) of point 5, for zones of small counts."""
    told = [(offsets, touches) for count, offsets, touches in zones for _ in range(count)]
    n = len(told)
    pairs = set()
    for low, (offsets, touches) in enumerate(told):
        pairs.update((low, low + offset) for offset in offsets if low + offset < n)
        pairs.update((low, n + touch) for touch in touches)
    return pairs


def eliminated(total, pairs):
    """All columns by point 6, and for each pair that is ever coupled when it becomes so."""
    near = [set() for _ in range(total)]
    for low, high in pairs:
        near[low].add(high)
        near[high].add(low)
    first = {pair: None for pair in pairs}
    columns = []
    for turn in range(total):
        column = sorted(unknown for unknown in near[turn] if unknown > turn)
        columns.append(column)
        for low, high in combinations(column, 2):
            if (low, high) not in first:
                first[low, high] = turn
                near[low].add(high)
                near[high].add(low)
    return columns, first


class Definition:
    """What points 5 to 7 tell of a small system: columns by elimination, and the tree of these."""

    def __init__(self, borders, zones):
        self.total = borders + sum(zone[0] for zone in zones)
        self.pairs = coupled_pairs(borders, zones)
        self.columns, _ = eliminated(self.total, self.pairs)
        self.sizes = [len(column) for column in self.columns]
        self.parents = [min(column, default=None) for column in self.columns]
        self.ways = [self._way(unknown) for unknown in range(self.total)]
        self.children = [[] for _ in range(self.total)]
        for unknown, parent in enumerate(self.parents):
            if parent is not None:
                self.children[parent].append(unknown)
        self.levels = []
        for unknown in range(self.total):
            self.levels.append(1 + max((self.levels[child] for child in self.children[unknown]), default=0))
        self.descendants = [0] * self.total
        for way in self.ways:
            for unknown in way[1:]:
                self.descendants[unknown] += 1

    def _way(self, unknown):
        """An unknown and its ancestors, ascending."""
        way = []
        while unknown is not None:
            way.append(unknown)
            unknown = self.parents[unknown]
        return way

    def reached(self, places):
        return sorted({unknown for place in places for unknown in self.ways[place]})

    def couplings(self, begin, end):
        """How many couplings have their lesser unknown in a span."""
        return sum(begin <= low < end for low, _ in self.pairs)


def some_list(random, pool, most):
    return sorted(random.sample(pool, random.randint(0, min(most, len(pool)))))


def some_zone(random, borders, count):
    offsets = some_list(random, random.choice(POOLS), 6)
    touches = some_list(random, list(range(borders)), borders) if random.random() < 0.6 else []
    return (count, offsets, touches)


def some_zones(random, borders, number, most):
    return [some_zone(random, borders, random.randint(1, most)) for _ in range(number)]


def some_systems(seed, many, most):
    """Many small systems of one to four zones, as (borders, zones)."""
    random = Random(seed)
    found = []
    for at in range(many):
        borders = at % 7
        number = at // 7 % 4 + 1
        found.append((borders, some_zones(random, borders, number, max(1, most // number))))
    return found


EDGES = [
    (0, [(1, [], [])]),
    (0, [(1, [16], [])]),
    (6, [(1, [1], [0, 1, 2, 3, 4, 5])]),
    (3, [(5, [], [])]),
    (2, [(4, [], [1]), (4, [], [0]), (3, [], [0, 1])]),
    (0, [(9, [], [])]),
    (1, [(2, [3, 5], [0]), (1, [], []), (1, [9], []), (6, [1], [])]),
    (0, [(3, [16], []), (4, [], []), (20, [1, 16], [])]),
    (0, [(17, [16], [])]),
    (0, [(16, [16], [])]),
    (2, [(3, [2], [0]), (4, [1], []), (2, [], [1])]),
    (4, [(2, [], [0, 1]), (2, [], [1, 2]), (2, [], [2, 3]), (30, [4, 8], [])]),
]


def step_of(zone):
    """Columns within a long zone repeat at the latest after so many unknowns, by point 11."""
    return max(1, gcd(*zone[1]))


class Shortened:
    """A system with great zones beside a small one whose great zones are shorter.

    A great count, and the short one in its place, leave the same remainder by
    the step of the zone. So unknowns near a bound go with those as near to it,
    and unknowns far from all bounds with those a number of steps away.
    """

    # Far more than what columns need until they repeat.
    LEAST = 160

    def __init__(self, borders, zones):
        self.great = System(borders, zones)
        self.short_zones = [self._short(zone) for zone in zones]
        self.short = System(borders, self.short_zones)
        self.bounds = []
        great = short = 0
        for zone, short_zone in zip(zones, self.short_zones):
            self.bounds.append((short, short_zone[0], great, zone[0], step_of(zone)))
            short += short_zone[0]
            great += zone[0]

    def _short(self, zone):
        count, offsets, touches = zone
        if count < 2 * self.LEAST:
            return zone
        return (self.LEAST + (count - self.LEAST) % step_of(zone), offsets, touches)

    def moved(self, unknown):
        """The unknown of the great system that is as near to a bound as one of the short one."""
        if unknown >= self.short.length:
            return unknown - self.short.length + self.great.length
        for short, short_count, great, count, _ in self.bounds:
            if unknown < short + short_count // 2:
                return unknown - short + great
            if unknown < short + short_count:
                return unknown - short - short_count + great + count
        raise AssertionError(unknown)

    def beside(self, unknowns, short, great):
        """Unknowns around or behind a short one, as they stand to the great one in its place."""
        return [self.moved(one) if one >= self.short.length else one - short + great for one in unknowns]

    def places(self, random):
        """Pairs of a short unknown and a great one: at all bounds, deep in zones, at the border."""
        border = range(self.short.length, self.short.unknowns)
        found = [(unknown, self.moved(unknown)) for unknown in border]
        for short, short_count, great, count, step in self.bounds:
            near = range(short, short + short_count)
            if short_count < count:
                near = [*near[:40], *near[-40:]]
                for _ in range(12):
                    place = random.randint(1000, count - 1000)
                    like = short + 80 + (place - 80) % step
                    found.append((like, great + place))
            found.extend((unknown, self.moved(unknown)) for unknown in near)
        return found


def great_systems(seed, many):
    """Many systems with great zones, small ones between, each with a shortened one."""
    random = Random(seed)
    found = []
    for at in range(many):
        borders = at % 7
        zones = []
        for _ in range(random.randint(1, 6)):
            count = random.choice([GREAT, GREAT - random.randint(1, 999), random.randint(1, 30)])
            zones.append(some_zone(random, borders, count))
        found.append(Shortened(borders, zones))
    return found


class GreatTree:
    """The tree of a great system, told by that of the shorter one, which comes of an elimination by definition.

    A great zone is shortened in its middle, where by point 11 the paths of the
    tree go on in laps. So each step to a parent across a middle stands for a
    path with hidden unknowns, so many laps of what the path has in one lap. In
    a zone without offsets the hidden unknowns have no children.
    """

    def __init__(self, pair):
        self.pair = pair
        self.told = Definition(pair.short.borders, pair.short_zones)
        # By the lesser unknown of a step across a middle: the middle, the laps, and what the path has in one lap.
        self.hidden = {}
        # By the middle of a zone without offsets: how many unknowns are hidden there.
        self.alone = {}
        for (short, short_count, _, count, step), zone in zip(pair.bounds, pair.short_zones):
            if count > short_count:
                self._hide(short + short_count // 2, (count - short_count) // step, step, zone)
        self.depths = self._depths()
        self.levels, self.descendants = self._levels_and_descendants()

    def _hide(self, middle, laps, step, zone):
        if not zone[1]:
            self.alone[middle] = laps
            return
        across = [low for low in range(middle - 16, middle) if self.told.parents[low] >= middle]
        for low in across:
            way = self.told.ways[low]
            self.hidden[low] = (middle, laps, way[:way.index(low + step)])
        assert sum(len(self.hidden[low][2]) for low in across) == step

    def many_hidden(self, unknown):
        """How many unknowns are hidden between one and its parent."""
        _, laps, path = self.hidden.get(unknown, (None, 0, []))
        return laps * len(path)

    def behind(self, unknown, steps):
        """The unknown of the great system so many steps behind that of one, at most where its hidden ones end."""
        _, _, path = self.hidden[unknown]
        laps, more = divmod(steps, len(path))
        step = self.told.ways[unknown][len(path)] - unknown
        return self.pair.moved(unknown) + laps * step + path[more] - unknown

    def _depths(self):
        depths = [0] * self.told.total
        for unknown in reversed(range(self.told.total)):
            parent = self.told.parents[unknown]
            if parent is not None:
                depths[unknown] = depths[parent] + 1 + self.many_hidden(unknown)
        return depths

    def _levels_and_descendants(self):
        levels = [1] * self.told.total
        descendants = [0] * self.told.total
        for unknown in range(self.told.total):
            parent = self.told.parents[unknown]
            more = self.alone.get(unknown, 0)
            if parent is not None:
                levels[parent] = max(levels[parent], levels[unknown] + self.many_hidden(unknown) + 1)
                descendants[parent] += descendants[unknown] + self.many_hidden(unknown) + 1 + more
        return levels, descendants

    def reached(self, places):
        """How many unknowns are reached, and the sum of their numbers of unknowns in columns."""
        many = room = 0
        for unknown in self.told.reached(places):
            many += 1 + self.many_hidden(unknown)
            _, laps, path = self.hidden.get(unknown, (None, 0, []))
            room += self.told.sizes[unknown] + laps * sum(self.told.sizes[other] for other in path)
        return many, room

    def reached_before(self, places, unknown):
        """How many of those reached come before the unknown of the great system in the place of one."""
        many = 0
        for other in self.told.reached(places):
            if other < unknown:
                many += 1
                if other in self.hidden and self.hidden[other][0] <= unknown:
                    many += self.many_hidden(other)
        return many

    def having(self, number):
        """All the unknowns of the great system that have a level, those alone apart; and how many these are."""
        found = [self.pair.moved(unknown) for unknown, level in enumerate(self.levels) if level == number]
        for unknown in self.hidden:
            steps = number - self.levels[unknown]
            if 0 < steps <= self.many_hidden(unknown):
                found.append(self.behind(unknown, steps))
        return found, sum(self.alone.values()) if number == 1 else 0


@lru_cache(maxsize=None)
def small_definitions():
    """Many small systems, each with what the definitions tell of it, as (system, definition)."""
    told = EDGES + some_systems(41, 420, 30) + some_systems(42, 56, 90)
    random = Random(43)
    for at in range(42):
        told.append((at % 7, some_zones(random, at % 7, random.randint(5, 12), 9)))
    return [(System(borders, zones), Definition(borders, zones)) for borders, zones in told]


@lru_cache(maxsize=None)
def returned_definitions():
    """Small systems that others returned, with more zones and more offsets than a caller may pass."""
    random = Random(44)
    lists = [[1, 2, 3, 4, 5, 6], [7, 8, 9, 10, 11, 12], [13, 14, 15, 16]]
    found = [System(0, [(4, lists[at % 3], []) for at in range(12)]).turned()]
    # One unknown with each offset: the last unknown is coupled with all of the 16 before it.
    each = System(0, [(1, [offset], []) for offset in range(16, 4, -1)])
    each = each.joined(System(0, [(1, [offset], []) for offset in range(4, 0, -1)] + [(1, [], [])])).turned()
    found.extend([found[0].joined(found[0]), each, each.joined(found[0])])
    for _ in range(12):
        system = System(0, some_zones(random, 0, 12, 4))
        turned = system.turned()
        joined = system.joined(turned).joined(System(0, some_zones(random, 0, 2, 9)))
        cut = joined.cut(random.randint(0, 9), joined.length - random.randint(0, 9))
        found.extend([turned, joined, cut, cut.turned()])
    for borders in range(1, 7):
        one = System(borders, some_zones(random, borders, 12, 4))
        two = System(borders, some_zones(random, borders, 12, 4))
        joined = one.joined(two).joined(one)
        found.extend([joined, joined.cut(3, joined.length - 2)])
    assert max(len(system.zones) for system in found) > 30
    assert max(len(zone[1]) for system in found for zone in system.zones) == 16
    return [(system, Definition(system.borders, system.zones)) for system in found]


@lru_cache(maxsize=None)
def great_trees():
    """Great systems with trees that come of shorter ones."""
    gaps = [
        (0, [(GREAT, [2, 4], []), (1, [], []), (GREAT, [6, 9], [])]),
        (2, [(GREAT, [4], [0]), (3, [], []), (GREAT, [6], [1]), (2, [], []), (GREAT - 5, [], []), (GREAT, [3], [])]),
        (1, [(3, [1], []), (GREAT - 1, [16], []), (GREAT, [15], []), (GREAT - 7, [16], [0])]),
        (0, [(10 ** 30, [5, 10, 15], [])]),
        (6, [(2, [1, 7], [0, 2]), (GREAT, [8], []), (20, [1], []), (GREAT - 3, [8, 12], [5]), (GREAT, [], [1, 4])]),
        (0, [(GREAT - at, [at % 16 + 1], []) for at in (1, 3, 5, 7, 9, 11, 12, 14, 15, 2, 4, 6)][:9]),
    ]
    pairs = [Shortened(borders, zones) for borders, zones in gaps] + great_systems(45, 42)
    return [GreatTree(pair) for pair in pairs]
