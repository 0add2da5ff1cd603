"""Systems: inner unknowns that stand in zones, and border unknowns."""

from fillbands.checks import check_span, check_unknown, is_within
from fillbands.elimination import Elimination
from fillbands.errors import Bordered, InvalidBorders, InvalidSystem, TooLarge, UnlikeSystems
from fillbands.growth import Growth
from fillbands.zones import (
    MOST_OFFSET,
    begins_of,
    check_length,
    check_zones,
    cut_zones,
    kept_zones,
    length_of,
    merged,
    shown_zones,
    standing_at,
    trimmed,
    turned_zones,
)

MOST_BORDERS = 6
MOST_LISTED = 1000


class System:
    """A symmetric sparse system, told by zones; it never changes."""

    def __init__(self, borders, zones):
        if not is_within(borders, 0, MOST_BORDERS):
            raise InvalidBorders(f"borders is an integer from 0 to {MOST_BORDERS}")
        check_zones(zones, borders)
        self._take(borders, kept_zones(zones))

    def _take(self, borders, zones):
        self._borders = borders
        self._zones = merged(zones)
        self._told = merged(trimmed(zones))
        self._begins = begins_of(self._told)
        self._length = length_of(zones)
        # Kept with the system, which never changes: the questions about columns and about the tree need them.
        self.elimination = Elimination(borders, self._told)
        self.growth = Growth(self.elimination)

    @property
    def borders(self):
        return self._borders

    @property
    def length(self):
        return self._length

    @property
    def unknowns(self):
        return self._length + self._borders

    @property
    def zones(self):
        return shown_zones(self._zones)

    def __eq__(self, other):
        return isinstance(other, System) and self._borders == other._borders and self._told == other._told

    def coupled(self, one, other):
        """Whether two unknowns are coupled ahead of any elimination."""
        check_unknown(one, self.unknowns)
        check_unknown(other, self.unknowns)
        return self._is_coupled(min(one, other), max(one, other))

    def _is_coupled(self, low, high):
        if low >= self._length:
            return False
        _, offsets, touches = self._told[standing_at(self._begins, low)]
        if high >= self._length:
            return high - self._length in touches
        return high - low in offsets

    def couplings(self):
        """How many couplings there are."""
        return self.couplings_from(0, self._length)

    def couplings_from(self, begin, end):
        """How many couplings have their lesser unknown in a span."""
        within = cut_zones(self._told, begin, end)
        return sum([count * (len(offsets) + len(touches)) for count, offsets, touches in within])

    def neighbours(self, unknown):
        """The unknowns that one is coupled with, ascending."""
        check_unknown(unknown, self.unknowns)
        if unknown >= self._length:
            return self._touching(unknown - self._length)
        _, offsets, touches = self._told[standing_at(self._begins, unknown)]
        near = range(max(0, unknown - MOST_OFFSET), unknown)
        earlier = [low for low in near if self._is_coupled(low, unknown)]
        later = [unknown + offset for offset in offsets]
        return earlier + later + [self._length + touch for touch in touches]

    def _touching(self, touch):
        """The inner unknowns that a border unknown is coupled with."""
        spans = [(begin, zone[0]) for begin, zone in zip(self._begins, self._told) if touch in zone[2]]
        if sum([count for _, count in spans]) > MOST_LISTED:
            raise TooLarge(MOST_LISTED)
        return [unknown for begin, count in spans for unknown in range(begin, begin + count)]

    def cut(self, begin, end):
        """The system of the inner unknowns of a span."""
        check_span(begin, end, self._length)
        return system_of(self._borders, cut_zones(self._zones, begin, end))

    def joined(self, second):
        """The system with the zones of this one and, behind them, those of another one."""
        check_system(second)
        if second._borders != self._borders:
            raise UnlikeSystems("systems that are joined have as many border unknowns")
        zones = self._zones + second._zones
        check_length(zones)
        return system_of(self._borders, zones)

    def turned(self):
        """The system with its unknowns in the opposite sequence."""
        if self._borders > 0:
            raise Bordered("a system with border unknowns cannot be turned")
        return system_of(0, turned_zones(self._told))


def system_of(borders, zones):
    """The system of kept zones, which may be more, with more offsets, than callers may pass."""
    made = System(borders, [(1, [], [])])
    made._take(borders, zones)
    return made


def check_system(value):
    """Raise InvalidSystem unless a value is a system."""
    if not isinstance(value, System):
        raise InvalidSystem("this is no System")


def check_one(system, unknown):
    """Raise what is wrong with a system or an unknown of it."""
    check_system(system)
    check_unknown(unknown, system.unknowns)


def check_pair(system, one, other):
    """Raise what is wrong with a system or two unknowns of it."""
    check_one(system, one)
    check_unknown(other, system.unknowns)


def check_part(system, begin, end):
    """Raise what is wrong with a system or a span of its unknowns."""
    check_system(system)
    check_span(begin, end, system.unknowns)
