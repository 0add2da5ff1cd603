"""Systems beside others that are nearly the same, and what elimination without some couplings tells."""

from tests.reference import eliminated, some_list, some_zones


def columns_without(told, gone):
    """The columns of a definition's system if some of its couplings are left out."""
    return eliminated(told.total, told.pairs - set(gone))[0]


def needless_pairs(told):
    """The couplings without which, each left out alone, all columns are the same; ascending."""
    return [pair for pair in sorted(told.pairs) if columns_without(told, [pair]) == told.columns]


def first_difference(one, two):
    """The first place at which two lists of as many items differ, None if there is none."""
    assert len(one) == len(two)
    return next((at for at, pair in enumerate(zip(one, two)) if pair[0] != pair[1]), None)


def parted(random, zones):
    """The same zones, some of them told as two."""
    found = []
    for count, offsets, touches in zones:
        first = random.randint(1, count)
        found.append((first, offsets, touches))
        if first < count:
            found.append((count - first, list(offsets), list(touches)))
    return found


def exchanged(random, zones):
    """The zones in another sequence."""
    found = list(zones)
    random.shuffle(found)
    return found


def toggled(numbers, number):
    return sorted(set(numbers) ^ {number})


def one_changed(random, borders, zone):
    """A zone with an offset or a touch more or less."""
    count, offsets, touches = zone
    if borders and random.random() < 0.4:
        return (count, offsets, toggled(touches, random.randrange(borders)))
    if len(offsets) == 6:
        return (count, toggled(offsets, random.choice(offsets)), touches)
    return (count, toggled(offsets, random.randint(1, 16)), touches)


def changed_at(random, borders, zones, at):
    """Zones of which only the unknown with a number has an offset or a touch more or less."""
    found = []
    for zone in zones:
        count, offsets, touches = zone
        if not 0 <= at < count:
            found.append(zone)
        else:
            parts = [(at, offsets, touches), one_changed(random, borders, (1, offsets, touches))]
            found.extend(part for part in [*parts, (count - 1 - at, offsets, touches)] if part[0])
        at -= count
    return found


def told_again(random, borders, total):
    """Quite other zones with as many unknowns."""
    found = []
    while total:
        zone, = some_zones(random, borders, 1, total)
        found.append(zone)
        total -= zone[0]
    return found[:-1] + [(found[-1][0], some_list(random, list(range(1, 17)), 6), found[-1][2])]


def variants(random, borders, zones):
    """Zones with as many unknowns: the same told otherwise, nearly the same, and quite others."""
    total = sum(zone[0] for zone in zones)
    at = random.randrange(len(zones))
    found = [
        zones,
        parted(random, zones),
        exchanged(random, zones),
        exchanged(random, parted(random, zones)),
        [*zones[:at], one_changed(random, borders, zones[at]), *zones[at + 1:]],
        changed_at(random, borders, zones, random.randrange(total)),
        changed_at(random, borders, parted(random, zones), total - 1),
        told_again(random, borders, total),
    ]
    return [variant for variant in found if len(variant) <= 12]
