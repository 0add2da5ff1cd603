"""Zones, one behind the other, apart from any system.

Inside the package a zone is (count, offsets, touches) with tuples in place of
the lists that callers see, so that it can be shared, compared and kept.
"""

from fillbands.checks import is_within
from fillbands.errors import InvalidZones

MOST_UNKNOWNS = 10 ** 30
MOST_OFFSET = 16
MOST_ZONES = 12
MOST_ITEMS = 6


def is_ascending(value, low, high):
    """Whether any value is a short ascending list of integers from low to high."""
    if not isinstance(value, list) or len(value) > MOST_ITEMS:
        return False
    if not all([is_within(item, low, high) for item in value]):
        return False
    return all([item < following for item, following in zip(value, value[1:])])


def is_zone(value, borders):
    """Whether any value is a zone for a system with so many border unknowns."""
    if not isinstance(value, tuple) or len(value) != 3:
        return False
    count, offsets, touches = value
    if not is_within(count, 1, MOST_UNKNOWNS):
        return False
    return is_ascending(offsets, 1, MOST_OFFSET) and is_ascending(touches, 0, borders - 1)


def check_zones(value, borders):
    """Raise InvalidZones unless a value is a list of zones that make a system."""
    if not isinstance(value, list) or not 1 <= len(value) <= MOST_ZONES:
        raise InvalidZones(None)
    for item, zone in enumerate(value):
        if not is_zone(zone, borders):
            raise InvalidZones(item)
    check_length(value)


def check_length(zones):
    """Raise InvalidZones if zones have too many unknowns together."""
    if length_of(zones) > MOST_UNKNOWNS:
        raise InvalidZones(None)


def length_of(zones):
    return sum([zone[0] for zone in zones])


def kept_zones(zones):
    """The zones that a caller passed, as they are kept."""
    return [(count, tuple(offsets), tuple(touches)) for count, offsets, touches in zones]


def shown_zones(zones):
    """Kept zones as a caller sees them, all lists new."""
    return [(count, list(offsets), list(touches)) for count, offsets, touches in zones]


def merged(zones):
    """The zones with neighbours that are alike put together."""
    parts = []
    for count, offsets, touches in zones:
        if parts and parts[-1][1:] == (offsets, touches):
            parts[-1] = (parts[-1][0] + count, offsets, touches)
        else:
            parts.append((count, offsets, touches))
    return parts


def trimmed(zones):
    """The zones without offsets that lead beyond the inner unknowns.

    Merged, zones that tell the same couplings become the same by this.
    """
    length = length_of(zones)
    parts = []
    begin = 0
    for count, offsets, touches in zones:
        end = begin + count
        safe = min(end, length - MOST_OFFSET) - begin
        if safe > 0:
            parts.append((safe, offsets, touches))
        for unknown in range(max(begin, length - MOST_OFFSET), end):
            kept = tuple([offset for offset in offsets if unknown + offset < length])
            parts.append((1, kept, touches))
        begin = end
    return parts


def cut_zones(zones, begin, end):
    """What the zones have of the unknowns from begin to end - 1."""
    parts = []
    place = 0
    for count, offsets, touches in zones:
        kept = min(place + count, end) - max(place, begin)
        if kept > 0:
            parts.append((kept, offsets, touches))
        place += count
    return parts


def turned_zones(zones):
    """Trimmed zones without touches, told from the last unknown to the first."""
    changes = offset_changes(zones)
    places = sorted(changes)
    holding = [0] * (MOST_OFFSET + 1)
    parts = []
    for place, following in zip(places, places[1:]):
        for offset, step in changes[place]:
            holding[offset] += step
        offsets = tuple([offset for offset, many in enumerate(holding) if many])
        parts.append((following - place, offsets, ()))
    return parts[::-1]


def offset_changes(zones):
    """By unknown, which couplings with earlier unknowns begin there or end.

    An unknown is coupled with the one that is an offset earlier exactly if the
    zone of that earlier one has the offset: so the zone counts, moved on by it.
    """
    changes = {0: [], length_of(zones): []}
    begin = 0
    for count, offsets, _ in zones:
        for offset in offsets:
            changes.setdefault(begin + offset, []).append((offset, 1))
            changes.setdefault(begin + count + offset, []).append((offset, -1))
        begin += count
    return changes


def begins_of(zones):
    """The first unknown of each zone."""
    begins = []
    begin = 0
    for zone in zones:
        begins.append(begin)
        begin += zone[0]
    return begins


def standing_at(begins, unknown):
    """The number of the zone that an inner unknown stands in."""
    low = 0
    high = len(begins)
    while high - low > 1:
        middle = (low + high) // 2
        if begins[middle] <= unknown:
            low = middle
        else:
            high = middle
    return low
