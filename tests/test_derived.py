"""cut, joined and turned."""

import unittest
from random import Random

from fillbands.columns import column
from fillbands.systems import System
from tests.reference import EDGES, GREAT, coupled_pairs, eliminated, great_systems, some_systems, some_zones
from tests.test_systems import merged


def pairs_of(system):
    """All couplings that a small system tells."""
    everything = range(system.unknowns)
    return {(low, high) for high in everything for low in range(high) if system.coupled(low, high)}


def plain_cut(borders, zones, begin, end):
    """The zones of a span, unknown by unknown."""
    single = [(1, offsets, touches) for count, offsets, touches in zones for _ in range(count)]
    return single[begin:end]


def mirrored(length, pairs):
    return {(length - 1 - high, length - 1 - low) for low, high in pairs}


def leads_beyond(system):
    """Whether a zone of a system has an offset that leads beyond the inner unknowns."""
    end = 0
    for count, offsets, _ in system.zones:
        end += count
        if offsets and end - 1 + offsets[-1] >= system.length:
            return True
    return False


class Cut(unittest.TestCase):
    def test_all_spans_of_small_systems(self):
        for borders, zones in EDGES + some_systems(21, 56, 14):
            system = System(borders, zones)
            pairs = coupled_pairs(borders, zones)
            for begin in range(system.length):
                for end in range(begin + 1, system.length + 1):
                    part = system.cut(begin, end)
                    kept = plain_cut(borders, zones, begin, end)
                    self.assertEqual((part.borders, part.length), (borders, end - begin))
                    self.assertEqual(part.zones, merged(kept))
                    moved = {
                        (low - begin, high - begin if high < system.length else high - system.length + end - begin)
                        for low, high in pairs
                        if begin <= low < end and (high < end or high >= system.length)
                    }
                    self.assertEqual(pairs_of(part), moved)
                    self.assertEqual(part.couplings(), len(moved))
            self.assertEqual(system.zones, merged(zones))

    def test_cut_anywhere_and_joined_again(self):
        for borders, zones in EDGES + some_systems(22, 140, 40):
            system = System(borders, zones)
            for place in range(1, system.length):
                again = system.cut(0, place).joined(system.cut(place, system.length))
                self.assertTrue(again == system)
                self.assertEqual(again.zones, system.zones)
            self.assertTrue(system.cut(0, system.length) == system)

    def test_great_systems(self):
        for pair in great_systems(23, 28):
            system = pair.great
            for _, _, begin, count, _ in pair.bounds:
                for place in range(begin + count - 20, begin + count + 20):
                    if not 0 < place < system.length:
                        continue
                    first = system.cut(0, place)
                    second = system.cut(place, system.length)
                    self.assertEqual((first.length, second.length), (place, system.length - place))
                    again = first.joined(second)
                    self.assertTrue(again == system)
                    self.assertEqual(again.zones, system.zones)
                    near = [unknown - place for unknown in system.neighbours(place) if unknown >= place]
                    self.assertEqual(second.neighbours(0), near)

    def test_a_cut_within_a_great_zone(self):
        system = System(1, [(GREAT, [2], [0]), (GREAT, [3, 16], [])])
        self.assertEqual(system.cut(5, 10 ** 20).zones, [(10 ** 20 - 5, [2], [0])])
        self.assertEqual(system.cut(GREAT - 1, GREAT + 2).zones, [(1, [2], [0]), (2, [3, 16], [])])
        self.assertEqual(system.cut(2 * GREAT - 1, 2 * GREAT).zones, [(1, [3, 16], [])])
        self.assertEqual(system.cut(GREAT - 1, GREAT + 2).neighbours(3), [0])


class Joined(unittest.TestCase):
    def test_small_systems(self):
        for borders, zones in some_systems(24, 70, 20):
            for other, more in some_systems(25, 21, 20):
                if other != borders:
                    continue
                system = System(borders, zones)
                second = System(borders, more)
                made = system.joined(second)
                self.assertEqual(made.zones, merged(zones + more))
                self.assertEqual(pairs_of(made), coupled_pairs(borders, zones + more))
                self.assertEqual(made.length, system.length + second.length)
                self.assertEqual((system.zones, second.zones), (merged(zones), merged(more)))

    def test_with_itself(self):
        system = System(1, [(3, [1], []), (2, [4], [0])])
        self.assertEqual(system.joined(system).zones, [(3, [1], []), (2, [4], [0])] * 2)
        plain = System(0, [(3, [1], [])])
        self.assertEqual(plain.joined(plain).zones, [(6, [1], [])])

    def test_equal_systems_can_be_unlike_behind_what_is_joined(self):
        plain = System(0, [(4, [1], [])])
        other = System(0, [(2, [1], []), (2, [1, 8], [])])
        tail = System(0, [(8, [], [])])
        self.assertTrue(plain == other)
        self.assertFalse(plain.joined(tail) == other.joined(tail))
        self.assertTrue(tail.joined(plain) == tail.joined(other))

    def test_more_zones_than_a_caller_may_pass(self):
        system = System(2, [(at + 1, [at % 16 + 1], [at % 2]) for at in range(12)])
        made = system.joined(system).joined(system)
        self.assertEqual(len(made.zones), 36)
        told = system.zones * 3
        pairs = coupled_pairs(2, told)
        self.assertEqual(pairs_of(made), pairs)
        columns, _ = eliminated(made.unknowns, pairs)
        self.assertEqual([column(made, unknown) for unknown in range(made.unknowns)], columns)
        self.assertTrue(made.cut(78, 156) == system)

    def test_up_to_all_unknowns_that_may_be(self):
        half = System(0, [(5 * GREAT, [1], [])])
        self.assertEqual(half.joined(half).zones, [(10 ** 30, [1], [])])


class Turned(unittest.TestCase):
    def check(self, zones):
        system = System(0, zones)
        turned = system.turned()
        self.assertEqual((turned.borders, turned.length), (0, system.length))
        self.assertEqual(pairs_of(turned), mirrored(system.length, coupled_pairs(0, zones)))
        self.assertFalse(leads_beyond(turned))
        self.assertEqual(turned.zones, merged(turned.zones))
        self.assertTrue(turned.turned() == system)
        self.assertEqual(system.zones, merged(zones))

    def test_small_systems(self):
        for borders, zones in EDGES:
            if borders == 0:
                self.check(zones)
        random = Random(26)
        for at in range(200):
            self.check(some_zones(random, 0, at % 5 + 1, 12))

    def test_all_spans_of_a_turned_system(self):
        random = Random(27)
        for _ in range(6):
            system = System(0, some_zones(random, 0, 3, 8)).turned()
            pairs = pairs_of(system)
            for begin in range(system.length):
                for end in range(begin + 1, system.length + 1):
                    moved = {(low - begin, high - begin) for low, high in pairs if begin <= low and high < end}
                    part = system.cut(begin, end)
                    self.assertEqual(pairs_of(part), moved)
                    self.assertTrue(part.turned().turned() == part)

    def test_more_offsets_than_a_caller_may_pass(self):
        lists = [[1, 2, 3, 4, 5, 6], [7, 8, 9, 10, 11, 12], [13, 14, 15, 16]]
        zones = [(4, lists[at % 3], []) for at in range(12)]
        system = System(0, zones)
        turned = system.turned()
        self.assertGreater(max(len(zone[1]) for zone in turned.zones), 6)
        self.check(zones)
        columns, _ = eliminated(turned.length, pairs_of(turned))
        self.assertEqual([column(turned, unknown) for unknown in range(turned.length)], columns)
        joined = turned.joined(turned)
        self.assertEqual(pairs_of(joined), coupled_pairs(0, joined.zones))

    def test_all_offsets_at_once(self):
        single = System(0, [(1, [offset], []) for offset in range(16, 4, -1)])
        system = single.joined(System(0, [(1, [offset], []) for offset in range(4, 0, -1)] + [(1, [], [])]))
        turned = system.turned()
        self.assertEqual(turned.zones, [(1, list(range(1, 17)), []), (16, [], [])])
        self.assertEqual(turned.neighbours(0), list(range(1, 17)))
        self.assertEqual(column(turned, 0), list(range(1, 17)))

    def test_great_systems(self):
        for pair in great_systems(28, 70):
            if pair.great.borders:
                continue
            system = pair.great
            turned = system.turned()
            self.assertTrue(turned.turned() == system)
            self.assertFalse(leads_beyond(turned))
            self.assertEqual(turned.couplings(), system.couplings())
            for _, unknown in pair.places(Random(29)):
                near = [system.length - 1 - other for other in reversed(system.neighbours(unknown))]
                self.assertEqual(turned.neighbours(system.length - 1 - unknown), near)

    def test_a_single_great_zone(self):
        far = System(0, [(10 ** 30, [3, 5], [])])
        told = [(10 ** 30 - 5, [3, 5], []), (2, [3], []), (3, [], [])]
        self.assertEqual(far.turned().zones, told)
        self.assertTrue(far.turned() == far)


if __name__ == "__main__":
    unittest.main()
