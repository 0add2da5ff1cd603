"""level, steps, at_level and first_at."""

import unittest
from random import Random

from fillbands.levels import at_level, first_at, level, steps
from fillbands.systems import System
from fillbands.tree import descendants, parent
from tests.reference import GREAT, great_systems, great_trees, returned_definitions, small_definitions

BEYOND = [-(10 ** 999), -(10 ** 30), -1, 0]
FAR_BEYOND = [10 ** 31, 10 ** 99, 10 ** 999]


class Small(unittest.TestCase):
    def test_levels_counted_by_children(self):
        for system, told in small_definitions() + returned_definitions():
            found = [level(system, unknown) for unknown in range(told.total)]
            self.assertEqual(found, told.levels, (system.borders, system.zones))
            self.assertEqual(steps(system), max(told.levels), (system.borders, system.zones))

    def test_all_numbers(self):
        for system, told in small_definitions() + returned_definitions():
            for number in BEYOND + list(range(1, max(told.levels) + 4)) + FAR_BEYOND:
                where = (system.borders, system.zones, number)
                self.assertEqual(at_level(system, number), told.levels.count(number), where)
                first = told.levels.index(number) if number in told.levels else None
                self.assertEqual(first_at(system, number), first, where)

    def test_one_unknown(self):
        system = System(0, [(1, [16], [])])
        self.assertEqual([level(system, 0), steps(system), at_level(system, 1), first_at(system, 1)], [1, 1, 1, 0])
        self.assertEqual([at_level(system, 2), first_at(system, 2), first_at(system, 0)], [0, None, None])

    def test_border_unknowns_alone(self):
        system = System(3, [(2, [], [0, 1]), (1, [], [])])
        self.assertEqual([level(system, unknown) for unknown in range(6)], [1, 1, 1, 2, 3, 1])
        self.assertEqual([at_level(system, 1), first_at(system, 3), steps(system)], [4, 4, 3])


class Shorter(unittest.TestCase):
    """Great systems as their shorter ones, moved on, with what the great zones have more."""

    def test_levels(self):
        for tree in great_trees():
            great = tree.pair.great
            for unknown in range(tree.told.total):
                self.assertEqual(level(great, tree.pair.moved(unknown)), tree.levels[unknown], (great.zones, unknown))
            self.assertEqual(steps(great), max(tree.levels))

    def test_levels_of_hidden_unknowns(self):
        random = Random(81)
        for tree in great_trees():
            for unknown in tree.hidden:
                many = tree.many_hidden(unknown)
                for more in (1, 2, 17, random.randint(1, many), many):
                    place = tree.behind(unknown, more)
                    self.assertEqual(level(tree.pair.great, place), tree.levels[unknown] + more)

    def numbers(self, random, tree):
        """Numbers of levels: small ones, those of all kept unknowns and beside these, and any."""
        greatest = max(tree.levels)
        found = {number + more for number in tree.levels for more in (-1, 0, 1)}
        found.update(random.randint(1, greatest) for _ in range(20))
        return sorted(found | {1, 2, 3, greatest, greatest + 1})

    def test_numbers(self):
        random = Random(82)
        for tree in great_trees():
            great = tree.pair.great
            for number in self.numbers(random, tree):
                places, alone = tree.having(number)
                self.assertEqual(at_level(great, number), len(places) + alone, (great.zones, number))
                self.assertEqual(first_at(great, number), min(places, default=None), (great.zones, number))


class Great(unittest.TestCase):
    def test_a_level_is_one_more_than_that_of_a_child(self):
        random = Random(83)
        for pair in great_systems(84, 42):
            system = pair.great
            for _ in range(40):
                unknown = random.choice([random.randrange(system.length), random.randint(0, min(90, system.length - 1))])
                near = range(max(0, unknown - 16), unknown)
                children = [low for low in near if parent(system, low) == unknown]
                found = 1 + max((level(system, low) for low in children), default=0)
                self.assertEqual(level(system, unknown), found)

    def test_the_first_of_a_level_has_it(self):
        random = Random(85)
        for pair in great_systems(86, 42):
            system = pair.great
            greatest = steps(system)
            self.assertEqual([at_level(system, greatest + 1), first_at(system, greatest + 1)], [0, None])
            self.assertGreater(at_level(system, greatest), 0)
            for number in {1, 2, 3, greatest, greatest // 2, *(random.randint(1, greatest) for _ in range(10))}:
                if not 1 <= number <= greatest:
                    continue
                first = first_at(system, number)
                self.assertEqual(level(system, first), number)
                self.assertGreater(at_level(system, number), 0)
                self.assertGreaterEqual(descendants(system, first), number - 1)

    def test_all_levels_have_all_unknowns(self):
        random = Random(87)
        for at in range(60):
            borders = at % 7
            zones = []
            for _ in range(random.randint(1, 6)):
                touches = sorted(random.sample(range(borders), random.randint(0, borders)))
                if random.random() < 0.5:
                    zones.append((random.choice([GREAT, 10 ** 20, 17]), [], touches))
                else:
                    zones.append((random.randint(1, 40), sorted(random.sample(range(1, 17), 2)), touches))
            system = System(borders, zones)
            found = [at_level(system, number) for number in range(-1, steps(system) + 3)]
            self.assertEqual(sum(found), system.unknowns, zones)
            self.assertEqual([found[0], found[1], found[-1], found[-2]], [0, 0, 0, 0])
            self.assertNotIn(0, found[2:-2])

    def test_one_zone_with_one_offset(self):
        for offset in range(1, 17):
            for count in (GREAT, GREAT + 1, GREAT + offset - 1, 10 ** 30):
                system = System(0, [(count, [offset], [])])
                rows = -(-count // offset)
                self.assertEqual(steps(system), rows)
                for unknown in (0, offset - 1, offset, count // 2, count - offset - 1, count - 1):
                    self.assertEqual(level(system, unknown), unknown // offset + 1)
                for number in (1, 2, 10 ** 27, rows - 1):
                    self.assertEqual([at_level(system, number), first_at(system, number)], [offset, (number - 1) * offset])
                last = (rows - 1) * offset
                self.assertEqual([at_level(system, rows), first_at(system, rows)], [count - last, last])
                self.assertEqual([at_level(system, rows + 1), first_at(system, rows + 1)], [0, None])

    def test_paths_that_are_parted(self):
        # One path through the first zone and the first unknown without offsets, two through the last zone.
        system = System(0, [(GREAT, [1], []), (20, [], []), (2 * GREAT, [2], [])])
        second = GREAT + 20
        self.assertEqual(steps(system), GREAT + 1)
        self.assertEqual([level(system, GREAT), level(system, GREAT + 1), level(system, second)], [GREAT + 1, 1, 1])
        self.assertEqual([at_level(system, 1), first_at(system, 1)], [1 + 19 + 2, 0])
        for number in (2, 3, 10 ** 20, GREAT):
            self.assertEqual([at_level(system, number), first_at(system, number)], [3, number - 1])
        self.assertEqual([at_level(system, GREAT + 1), first_at(system, GREAT + 1)], [1, GREAT])
        self.assertEqual(level(system, second + 2 * 10 ** 20 + 1), 10 ** 20 + 1)

    def test_a_longer_path_behind_a_shorter_one(self):
        system = System(1, [(10 ** 20, [1], []), (1, [], []), (10 ** 25, [4], []), (4, [], [0])])
        second = 10 ** 20 + 1
        rows = 10 ** 25 // 4 + 1
        self.assertEqual(steps(system), rows + 1)
        self.assertEqual([at_level(system, rows + 1), first_at(system, rows + 1)], [1, second + 10 ** 25 + 4])
        self.assertEqual([at_level(system, rows), first_at(system, rows)], [4, second + 10 ** 25])
        self.assertEqual([at_level(system, 10 ** 20 + 2), first_at(system, 10 ** 20 + 2)], [4, second + 4 * (10 ** 20 + 1)])
        self.assertEqual([at_level(system, 10 ** 20 + 1), first_at(system, 10 ** 20 + 1)], [5, 10 ** 20])

    def test_twelve_great_zones(self):
        for offset in (1, 3, 16):
            zones = [(8 * 10 ** 28, [offset], [0] * (at % 2)) for at in range(12)]
            system = System(1, zones)
            length = 96 * 10 ** 28
            rows = length // offset
            self.assertEqual(steps(system), rows + 1)
            self.assertEqual([at_level(system, rows), at_level(system, rows + 1)], [offset, 1])
            for unknown in (0, 5, 10 ** 28, 17 * 10 ** 28 + 3, 8 * 10 ** 28 * 11 - 1, length - 1):
                self.assertEqual(level(system, unknown), unknown // offset + 1)
                self.assertEqual(first_at(system, unknown // offset + 1), unknown - unknown % offset)
            self.assertEqual([level(system, length), first_at(system, rows + 1)], [rows + 1, length])


if __name__ == "__main__":
    unittest.main()
