import unittest
from itertools import groupby
from random import Random

from fillbands.errors import TooLarge
from fillbands.systems import System
from tests.reference import EDGES, GREAT, coupled_pairs, great_systems, some_systems, some_zones


def merged(zones):
    """Zones with neighbours with the same lists put together, by the words of the document."""
    found = []
    for (offsets, touches), same in groupby(zones, key=lambda zone: (zone[1], zone[2])):
        found.append((sum(zone[0] for zone in same), offsets, touches))
    return found


def split(random, zones):
    """Other zones that tell the same system: parts of them, and offsets that lead beyond added."""
    length = sum(zone[0] for zone in zones)
    found = []
    begin = 0
    for count, offsets, touches in zones:
        cut = random.randint(1, count)
        for part in (cut, count - cut):
            if part:
                beyond = [offset for offset in range(1, 17) if begin + offset >= length and offset not in offsets]
                more = random.sample(beyond, min(len(beyond), random.randint(0, 6 - len(offsets))))
                found.append((part, sorted(offsets + more), list(touches)))
                begin += part
    return found


class Properties(unittest.TestCase):
    def test_numbers(self):
        for borders, zones in EDGES + some_systems(1, 60, 40):
            system = System(borders, zones)
            length = sum(zone[0] for zone in zones)
            self.assertEqual((system.borders, system.length, system.unknowns), (borders, length, length + borders))

    def test_zones_puts_neighbours_with_the_same_lists_together(self):
        for borders, zones in EDGES + some_systems(2, 140, 40):
            self.assertEqual(System(borders, zones).zones, merged(zones))
            twice = [zone for zone in zones for _ in range(2)]
            self.assertEqual(System(borders, twice).zones, merged(twice))
        same = [(1, [2], []), (2, [2], []), (3, [2], [0]), (4, [], []), (5, [], []), (1, [2], [])]
        self.assertEqual(System(1, same).zones, [(3, [2], []), (3, [2], [0]), (9, [], []), (1, [2], [])])

    def test_zones_keeps_offsets_that_lead_beyond(self):
        self.assertEqual(System(0, [(2, [1, 16], [])]).zones, [(2, [1, 16], [])])

    def test_zones_are_tuples_with_lists(self):
        for zone in System(2, [(3, [1], [0, 1]), (2, [], [])]).zones:
            self.assertEqual([type(part) for part in zone], [int, list, list])
            self.assertIs(type(zone), tuple)

    def test_a_returned_list_is_new_each_time(self):
        system = System(1, [(4, [1], [0]), (3, [], [])])
        told = system.zones
        told[0][1].append(9)
        told[0][2].clear()
        told.pop()
        self.assertEqual(system.zones, [(4, [1], [0]), (3, [], [])])
        for method, unknown in ((system.neighbours, 2), (system.neighbours, 7)):
            listed = method(unknown)
            listed.append(None)
            self.assertEqual(method(unknown), listed[:-1])
        self.assertEqual(system.couplings(), 8)

    def test_later_changes_of_a_passed_list_change_nothing(self):
        offsets = [1, 2]
        touches = [0]
        zones = [(4, offsets, touches)]
        system = System(1, zones)
        offsets.append(3)
        touches.clear()
        zones.append((1, [], []))
        self.assertEqual(system.zones, [(4, [1, 2], [0])])
        self.assertEqual(system.unknowns, 5)
        self.assertEqual(system.neighbours(0), [1, 2, 4])

    def test_parts_that_share_a_list(self):
        shared = [1, 2]
        system = System(3, [(4, shared, shared), (1, [], shared)])
        system.zones[0][1].append(5)
        self.assertEqual(system.zones, [(4, [1, 2], [1, 2]), (1, [], [1, 2])])


class Couplings(unittest.TestCase):
    def check(self, borders, zones):
        system = System(borders, zones)
        pairs = coupled_pairs(borders, zones)
        self.assertEqual(system.couplings(), len(pairs))
        for one in range(system.unknowns):
            near = []
            for other in range(system.unknowns):
                told = (min(one, other), max(one, other)) in pairs
                self.assertIs(system.coupled(one, other), told, (borders, zones, one, other))
                if told:
                    near.append(other)
            self.assertEqual(system.neighbours(one), near, (borders, zones, one))

    def test_edges(self):
        for borders, zones in EDGES:
            self.check(borders, zones)

    def test_many_small_systems(self):
        for borders, zones in some_systems(3, 280, 44):
            self.check(borders, zones)

    def test_most_of_all(self):
        lists = [[11, 12, 13, 14, 15, 16], [1, 2, 3, 4, 5, 16]]
        self.check(6, [(at % 3 + 1, lists[at % 2], [0, 1, 2, 3, 4, 5]) for at in range(12)])

    def test_great_systems(self):
        random = Random(4)
        for pair in great_systems(5, 42):
            for short, great in pair.places(random):
                if short >= pair.short.length:
                    continue
                near = pair.beside(pair.short.neighbours(short), short, great)
                self.assertEqual(pair.great.neighbours(great), near)
                for other in range(max(0, great - 18), min(great + 19, pair.great.length)):
                    self.assertIs(pair.great.coupled(great, other), other in near)
                for other in range(pair.great.length, pair.great.unknowns):
                    self.assertIs(pair.great.coupled(other, great), other in near)

    def test_couplings_of_great_systems(self):
        for pair in great_systems(6, 42):
            more = sum(
                (zone[0] - short[0]) * len(zone[1] + zone[2])
                for zone, short in zip(pair.great.zones, System(pair.great.borders, pair.short_zones).zones)
            )
            self.assertEqual(pair.great.couplings(), pair.short.couplings() + more)

    def test_exactly_a_thousand_neighbours(self):
        parts = [(400, [], [0]), (GREAT, [16], []), (600, [1], [0, 1])]
        system = System(2, parts)
        begin = 400 + GREAT
        self.assertEqual(system.neighbours(begin + 600), [*range(400), *range(begin, begin + 600)])
        self.assertEqual(system.neighbours(begin + 601), list(range(begin, begin + 600)))
        more = System(2, [*parts, (1, [], [0])])
        with self.assertRaises(TooLarge) as caught:
            more.neighbours(begin + 601)
        self.assertEqual(caught.exception.limit, 1000)
        self.assertEqual(len(more.neighbours(begin + 602)), 600)
        with self.assertRaises(TooLarge):
            System(1, [(GREAT, [], [0])]).neighbours(GREAT)


class Equality(unittest.TestCase):
    def test_told_by_other_zones(self):
        random = Random(7)
        for borders, zones in some_systems(8, 280, 30):
            zones = zones[:6]
            system = System(borders, zones)
            other = System(borders, split(random, zones))
            self.assertTrue(system == other)
            self.assertFalse(system != other)

    def test_all_small_pairs(self):
        random = Random(9)
        systems = []
        for _ in range(150):
            borders = random.randint(0, 1)
            length = random.randint(1, 4)
            zones = []
            while length:
                count = random.randint(1, length)
                offsets = sorted(random.sample([1, 2, 3], random.randint(0, 2)))
                zones.append((count, offsets, [0] * random.randint(0, borders)))
                length -= count
            systems.append((borders, zones))
        built = [System(borders, zones) for borders, zones in systems]
        keys = [(b, sum(zone[0] for zone in zones), coupled_pairs(b, zones)) for b, zones in systems]
        alike = 0
        for one, key in zip(built, keys):
            for other, second in zip(built, keys):
                self.assertIs(one == other, key == second)
                alike += key == second
        self.assertGreater(alike, 300)

    def test_offsets_that_lead_beyond_play_no_part(self):
        self.assertTrue(System(0, [(3, [1, 5], [])]) == System(0, [(3, [1], [])]))
        self.assertTrue(System(0, [(1, [1], []), (1, [16], [])]) == System(0, [(1, [1], []), (1, [], [])]))
        self.assertFalse(System(0, [(3, [1, 2], [])]) == System(0, [(3, [1], [])]))
        one = System(0, [(GREAT, [1], []), (3, [1, 4], [])])
        self.assertTrue(one == System(0, [(GREAT + 3, [1], [])]))
        self.assertFalse(one == System(0, [(GREAT + 2, [1], [])]))
        tail = System(0, [(3, [], [])])
        self.assertFalse(one.joined(tail) == System(0, [(GREAT + 3, [1], [])]).joined(tail))

    def test_borders_and_length_count(self):
        self.assertFalse(System(0, [(3, [], [])]) == System(1, [(3, [], [])]))
        self.assertFalse(System(1, [(3, [], [])]) == System(1, [(4, [], [])]))
        self.assertFalse(System(0, [(4, [], [])]) == System(1, [(3, [], [])]))
        self.assertFalse(System(2, [(3, [], [0])]) == System(2, [(3, [], [1])]))

    def test_values_that_are_no_system(self):
        system = System(0, [(3, [1], [])])
        for value in (None, True, 0, 3, "0; 3:1:", b"x", [], [(3, [1], [])], (0, [(3, [1], [])]), {}, System, object()):
            self.assertIs(system == value, False)
            self.assertIs(system != value, True)
        self.assertIs(system == system, True)


class Bounds(unittest.TestCase):
    def test_the_bounds_themselves_are_taken(self):
        self.assertEqual(System(0, [(10 ** 30, [], [])]).length, 10 ** 30)
        twelve = [(10 ** 30 // 12 + (at < 4), [at + 1], []) for at in range(12)]
        self.assertEqual(System(0, twelve).length, 10 ** 30)
        self.assertEqual(System(0, twelve).zones, twelve)
        system = System(6, [(40, [1, 2, 3, 4, 5, 16], [0, 1, 2, 3, 4, 5])])
        self.assertEqual(system.neighbours(0), [1, 2, 3, 4, 5, 16, 40, 41, 42, 43, 44, 45])
        self.assertEqual(System(0, [(20, [16], [])]).neighbours(3), [19])

    def test_equal_arguments_give_equal_results(self):
        random = Random(10)
        zones = some_zones(random, 3, 4, 9)
        self.assertEqual(System(3, zones).zones, System(3, zones).zones)


if __name__ == "__main__":
    unittest.main()
