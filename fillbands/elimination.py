"""The columns of all unknowns, told without going through all of them.

A column is kept as an integer, its mask. For the column of unknown k bit d - 1
tells whether the inner unknown k + d is in it, for d from 1 to 16, and bit
16 + t whether the border unknown t is. So equal columns, moved on, have equal
masks.
"""

from math import gcd, lcm

from fillbands.zones import MOST_OFFSET, begins_of, length_of, standing_at

# The bits of the inner unknowns.
INNER = (1 << 16) - 1


def mask_of(offsets, touches):
    """The mask of the later unknowns that an unknown is coupled with at first."""
    mask = 0
    for offset in offsets:
        mask |= 1 << (offset - 1)
    for touch in touches:
        mask |= 1 << (MOST_OFFSET + touch)
    return mask


def lowest(mask):
    """The number of the lowest bit of a mask that is not 0."""
    return (mask & -mask).bit_length() - 1


def size_of(mask):
    """How many unknowns a column has."""
    return f"{mask:b}".count("1")


def hand_on(pending, mask):
    """Hand the rest of a column on to the parent, if this is an inner unknown.

    In pending stand, for each of the next 16 unknowns, the columns of those
    whose parent it is, put together and moved on to it. Nothing else of the
    unknowns eliminated so far plays a part for the columns to come.
    """
    inner = mask & INNER
    if inner:
        parent = lowest(inner)
        pending[parent] |= (inner >> (parent + 1)) | (mask ^ inner)


def lap_of(offsets, period):
    """After how many unknowns of a long zone the tree comes again, if its masks have a period.

    Behind a period the masks are the same, but an unknown and the one a period
    further on need not lie on one path: only a common divisor of the offsets
    leads to the same path again.
    """
    common = 0
    for offset in offsets:
        common = gcd(common, offset)
    return lcm(max(common, 1), period)


class Stretch:
    """The columns of a zone: masks, those from number tail on again and again.

    From number tail on each path of the tree goes from an unknown to the one a
    lap further on. In needless stand, for the same unknowns as in masks, the
    bits of their needless couplings.
    """

    def __init__(self, begin, end, masks, needless, tail, lap):
        self.begin = begin
        self.end = end
        self.masks = masks
        self.needless = needless
        self.tail = tail
        self.lap = lap

    def mask_at(self, unknown):
        at = unknown - self.begin
        if at >= len(self.masks):
            at = self.tail + (at - self.tail) % (len(self.masks) - self.tail)
        return self.masks[at]

    def masks_between(self, begin, end):
        """The masks of the unknowns of a span, which the stretch has, one by one."""
        found = self.masks[begin - self.begin:end - self.begin]
        for unknown in range(begin + len(found), end):
            found.append(self.mask_at(unknown))
        return found

    def kinds(self, begin, end):
        """The kinds of columns of the unknowns that a span shares with the stretch."""
        return self._kinds_among(self.masks, begin, end)

    def needless_kinds(self, begin, end):
        """As kinds, with the needless couplings in place of the columns."""
        return self._kinds_among(self.needless, begin, end)

    def needless_at(self, unknown):
        """The bits of the needless couplings of an unknown of the stretch with later ones."""
        return self.needless_kinds(unknown, unknown + 1)[0][1]

    def _kinds_among(self, masks, begin, end):
        begin = max(begin, self.begin)
        end = min(end, self.end)
        period = len(masks) - self.tail
        again = max(begin, self.begin + self.tail)
        found = [(unknown, masks[unknown - self.begin], 1) for unknown in range(begin, min(end, again))]
        for unknown in range(again, min(end, again + period)):
            at = self.tail + (unknown - self.begin - self.tail) % period
            found.append((unknown, masks[at], (end - 1 - unknown) // period + 1))
        return found

    def first_unlike(self, second, begin, end):
        """The first unknown of a span, which both stretches have, whose columns differ; None if there is none."""
        tail = max(begin, self.begin + self.tail, second.begin + second.tail)
        # From both tails on, equal columns over a multiple of both periods are equal again and again.
        rest = lcm(len(self.masks) - self.tail, len(second.masks) - second.tail)
        for unknown in range(begin, min(end, tail + rest)):
            if self.mask_at(unknown) != second.mask_at(unknown):
                return unknown
        return None

    def has_a_lap_from(self, unknown):
        """Whether the paths of the tree go on through a whole lap of the stretch from an unknown of it on.

        From number tail on either all columns of a stretch have inner unknowns,
        or none have, and there are no paths.
        """
        return self.masks[-1] & INNER != 0 and self.begin + self.tail <= unknown <= self.end - self.lap

    def first_having(self, bits):
        """The first unknown whose column has all of some bits, None if there is none."""
        for at, mask in enumerate(self.masks):
            if mask & bits == bits:
                return self.begin + at
        return None

    def all_having(self, bits, most):
        """The unknowns whose columns have all of some bits; not all if they are more than most."""
        found = []
        hits = [at for at, mask in enumerate(self.masks) if mask & bits == bits]
        again = [at for at in hits if at >= self.tail]
        begin = self.begin
        while hits and begin + hits[0] < self.end and len(found) <= most:
            found.extend([begin + at for at in hits if begin + at < self.end])
            begin += len(self.masks) - self.tail
            hits = again
        return found


def walked(begin, zone, pending):
    """The stretch of a zone; pending is what is handed on to it, then what it hands on.

    Within a zone the same that is handed on makes the same columns from there
    on, so the walk ends as soon as something pending comes for the second time.
    What an unknown is coupled with at first, and handed on as well, is needless.
    """
    count, offsets, touches = zone
    direct = mask_of(offsets, touches)
    masks = []
    seen = {}
    needless = []
    while len(masks) < count:
        key = tuple(pending)
        if key in seen:
            tail = seen[key]
            period = len(masks) - tail
            pending[:] = list(seen)[tail + (count - tail) % period]
            return Stretch(begin, begin + count, masks, needless, tail, lap_of(offsets, period))
        seen[key] = len(masks)
        handed = pending.pop(0)
        pending.append(0)
        mask = direct | handed
        masks.append(mask)
        needless.append(direct & handed)
        hand_on(pending, mask)
    return Stretch(begin, begin + count, masks, needless, count, 1)


class Elimination:
    """What becomes of the unknowns of a system, told by trimmed zones."""

    def __init__(self, borders, told):
        self._begins = begins_of(told)
        self._inner = length_of(told)
        self.stretches = []
        pending = [0] * MOST_OFFSET
        for begin, zone in zip(self._begins, told):
            self.stretches.append(walked(begin, zone, pending))
        self.last_masks = self._eliminated_borders(borders)

    def _eliminated_borders(self, borders):
        """The masks of the columns of the border unknowns."""
        last = [0] * borders
        for stretch in self.stretches:
            for mask in stretch.masks:
                hand_on_at_border(last, mask)
        for touch in range(borders):
            hand_on_at_border(last, last[touch])
        return last

    def stretch(self, unknown):
        """The stretch that an unknown stands in, None for a border unknown."""
        if unknown >= self._inner:
            return None
        return self.stretches[standing_at(self._begins, unknown)]

    def mask(self, unknown):
        stretch = self.stretch(unknown)
        if stretch is None:
            return self.last_masks[unknown - self._inner]
        return stretch.mask_at(unknown)

    def parent(self, unknown):
        """The least unknown of a column, None if it is empty."""
        mask = self.mask(unknown)
        if mask == 0:
            return None
        if mask & INNER:
            return unknown + 1 + lowest(mask)
        return self._inner + lowest(mask) - MOST_OFFSET

    def kinds(self, begin, end):
        """The kinds of columns of a span: tuples of the first unknown, its mask and how many have the same one.

        They are ascending; a mask can come several times.
        """
        found = []
        for stretch in self.stretches:
            found.extend(stretch.kinds(begin, end))
        for unknown in range(max(begin, self._inner), end):
            found.append((unknown, self.mask(unknown), 1))
        return found

    def needless_kinds(self, begin, end):
        """As kinds, with the needless couplings in place of the columns, and without border unknowns."""
        found = []
        for stretch in self.stretches:
            found.extend(stretch.needless_kinds(begin, end))
        return found

    def is_needless(self, low, high):
        """Whether the coupling of an inner unknown with a later one, that there is, is needless."""
        return self.stretch(low).needless_at(low) & self.bit(low, high) != 0

    def bit(self, low, high):
        """The bit that a later unknown has in the mask of another, 0 if it cannot be there."""
        if high >= self._inner:
            return 1 << (MOST_OFFSET + high - self._inner)
        if high - low > MOST_OFFSET:
            return 0
        return 1 << (high - low - 1)

    def has(self, low, high):
        """Whether a later unknown is in the column of another."""
        return self.mask(low) & self.bit(low, high) != 0

    def members(self, unknown):
        """The column of an unknown, ascending."""
        return self.told_by(unknown, self.mask(unknown))

    def told_by(self, unknown, mask):
        """The later unknowns that a mask of an unknown tells, ascending."""
        near = [unknown + offset for offset in range(1, MOST_OFFSET + 1) if mask >> (offset - 1) & 1]
        last = [self._inner + touch for touch in range(len(self.last_masks)) if mask >> (MOST_OFFSET + touch) & 1]
        return near + last

    def earlier_near(self, unknown):
        """The earlier unknowns whose columns can have an inner unknown."""
        return list(range(max(0, unknown - MOST_OFFSET), unknown))

    def first_unlike(self, second):
        """The first unknown whose column differs in another elimination of as many unknowns, None if there is none."""
        bounds = sorted(set(self._begins + second._begins + [self._inner]))
        for begin, end in zip(bounds, bounds[1:]):
            first = self.stretch(begin).first_unlike(second.stretch(begin), begin, end)
            if first is not None:
                return first
        # The columns of the border unknowns come of those of the inner ones alone.
        return None

    def holders(self, unknown, most):
        """The unknowns whose columns have this one; not all if they are more than most."""
        if unknown < self._inner:
            return [low for low in self.earlier_near(unknown) if self.has(low, unknown)]
        found = []
        bit = self.bit(0, unknown)
        for stretch in self.stretches:
            if len(found) <= most:
                found.extend(stretch.all_having(bit, most))
        return found + [low for low in range(self._inner, unknown) if self.has(low, unknown)]

    def first_holding(self, low, high):
        """The first unknown whose column has two different unknowns, None if there is none."""
        if low < self._inner:
            for unknown in self.earlier_near(low):
                if self.has(unknown, low) and self.has(unknown, high):
                    return unknown
            return None
        bits = self.bit(0, low) | self.bit(0, high)
        for stretch in self.stretches:
            first = stretch.first_having(bits)
            if first is not None:
                return first
        for unknown in range(self._inner, low):
            if self.mask(unknown) & bits == bits:
                return unknown
        return None


def hand_on_at_border(last, mask):
    """Hand the rest of a column without inner unknowns on to its parent at the border."""
    if mask and not mask & INNER:
        parent = lowest(mask)
        last[parent - MOST_OFFSET] |= mask ^ (1 << parent)
