"""parent, ancestor, depth, descendants, meeting and roots."""

import unittest
from random import Random

from fillbands.columns import column
from fillbands.systems import System
from fillbands.tree import ancestor, depth, descendants, meeting, parent, roots
from tests.reference import GREAT, great_systems, great_trees, returned_definitions, small_definitions

ALL_SMALL = small_definitions() + returned_definitions()


def common(told, one, other):
    """The least unknown that is each of both or an ancestor of it."""
    return min(set(told.ways[one]) & set(told.ways[other]), default=None)


class Small(unittest.TestCase):
    def test_parents_and_depths(self):
        for system, told in ALL_SMALL:
            for unknown in range(told.total):
                where = (system.borders, system.zones, unknown)
                self.assertEqual(parent(system, unknown), told.parents[unknown], where)
                self.assertEqual(depth(system, unknown), len(told.ways[unknown]) - 1, where)

    def test_descendants(self):
        for system, told in ALL_SMALL:
            found = [descendants(system, unknown) for unknown in range(told.total)]
            self.assertEqual(found, told.descendants, (system.borders, system.zones))

    def test_all_steps_and_some_beyond(self):
        for system, told in ALL_SMALL:
            for unknown, way in enumerate(told.ways):
                if told.total > 40 and unknown % 5:
                    continue
                found = [ancestor(system, unknown, steps) for steps in range(len(way) + 2)]
                self.assertEqual(found, [*way, None, None], (system.borders, system.zones, unknown))
                for steps in (10 ** 30, 10 ** 99, 10 ** 999):
                    self.assertIsNone(ancestor(system, unknown, steps))

    def test_all_pairs_meet(self):
        for system, told in ALL_SMALL:
            if told.total > 40:
                continue
            for one in range(told.total):
                for other in range(told.total):
                    where = (system.borders, system.zones, one, other)
                    self.assertEqual(meeting(system, one, other), common(told, one, other), where)

    def test_pairs_of_longer_systems_meet(self):
        random = Random(61)
        for system, told in ALL_SMALL:
            if told.total <= 40:
                continue
            for _ in range(100):
                one, other = random.randrange(told.total), random.randrange(told.total)
                self.assertEqual(meeting(system, one, other), common(told, one, other))

    def test_roots(self):
        for system, told in ALL_SMALL:
            self.assertEqual(roots(system), told.parents.count(None), (system.borders, system.zones))

    def test_an_unknown_meets_itself(self):
        system = System(1, [(3, [], []), (2, [1], [0])])
        self.assertEqual([meeting(system, one, one) for one in range(6)], list(range(6)))
        self.assertIsNone(meeting(system, 0, 1))
        self.assertIsNone(meeting(system, 0, 5))
        self.assertEqual([meeting(system, 3, 5), meeting(system, 4, 3)], [5, 4])


class Shorter(unittest.TestCase):
    """Great systems as their shorter ones, moved on, with what the great zones have more."""

    def test_parents(self):
        for tree in great_trees():
            for unknown, above in enumerate(tree.told.parents):
                if unknown not in tree.hidden:
                    moved = None if above is None else tree.pair.moved(above)
                    self.assertEqual(parent(tree.pair.great, tree.pair.moved(unknown)), moved)

    def test_depths_and_descendants(self):
        for tree in great_trees():
            great, moved = tree.pair.great, tree.pair.moved
            for unknown in range(tree.told.total):
                self.assertEqual(depth(great, moved(unknown)), tree.depths[unknown], (great.zones, unknown))
                self.assertEqual(descendants(great, moved(unknown)), tree.descendants[unknown], (great.zones, unknown))

    def test_hidden_unknowns(self):
        random = Random(62)
        for tree in great_trees():
            great = tree.pair.great
            for unknown in tree.hidden:
                many = tree.many_hidden(unknown)
                begin = tree.pair.moved(unknown)
                for steps in (1, 2, 17, random.randint(1, many), many):
                    place = tree.behind(unknown, steps)
                    self.assertEqual(ancestor(great, begin, steps), place)
                    self.assertEqual(depth(great, place), tree.depths[unknown] - steps)
                    self.assertEqual(descendants(great, place), tree.descendants[unknown] + steps)
                    self.assertEqual(meeting(great, begin, place), place)

    def test_ancestors(self):
        random = Random(63)
        for tree in great_trees():
            great, moved = tree.pair.great, tree.pair.moved
            for unknown in random.sample(range(tree.told.total), min(40, tree.told.total)):
                way = tree.told.ways[unknown]
                for above in {unknown, way[-1], random.choice(way), random.choice(way)}:
                    steps = tree.depths[unknown] - tree.depths[above]
                    self.assertEqual(ancestor(great, moved(unknown), steps), moved(above))
                self.assertIsNone(ancestor(great, moved(unknown), tree.depths[unknown] + 1))

    def test_meetings(self):
        random = Random(64)
        met = 0
        for tree in great_trees():
            great, moved = tree.pair.great, tree.pair.moved
            for _ in range(150):
                one, other = random.randrange(tree.told.total), random.randrange(tree.told.total)
                if random.random() < 0.3:
                    other = min(tree.told.total - 1, one + random.randint(0, 20))
                place = common(tree.told, one, other)
                met += place is not None
                expected = None if place is None else moved(place)
                self.assertEqual(meeting(great, moved(one), moved(other)), expected, (great.zones, one, other))
        self.assertGreater(met, 2000)

    def test_roots(self):
        for tree in great_trees():
            alone = sum(laps for middle, laps in tree.alone.items() if tree.told.parents[middle] is None)
            self.assertEqual(roots(tree.pair.great), tree.told.parents.count(None) + alone)
            found = [tree.pair.moved(unknown) for unknown, above in enumerate(tree.told.parents) if above is None]
            under = sum(descendants(tree.pair.great, unknown) + 1 for unknown in found)
            self.assertEqual(under + alone, tree.pair.great.unknowns)


class Great(unittest.TestCase):
    def some_unknowns(self, random, system, many):
        """Unknowns anywhere, near one another, and at the ends."""
        found = [0, 1, system.length - 1, system.unknowns - 1]
        for _ in range(many):
            place = random.randrange(system.unknowns)
            found.extend([place, min(place + random.randint(1, 40), system.unknowns - 1)])
        return found

    def test_many_steps_are_steps_behind_steps(self):
        random = Random(65)
        for pair in great_systems(66, 42):
            system = pair.great
            for unknown in self.some_unknowns(random, system, 8):
                above = depth(system, unknown)
                self.assertEqual(ancestor(system, unknown, 0), unknown)
                self.assertIsNone(ancestor(system, unknown, above + 1))
                self.assertIsNone(parent(system, ancestor(system, unknown, above)))
                self.assertEqual(ancestor(system, unknown, 1), parent(system, unknown))
                for _ in range(4):
                    steps = random.randint(0, above)
                    first = random.randint(0, steps)
                    place = ancestor(system, unknown, first)
                    self.assertEqual(ancestor(system, place, steps - first), ancestor(system, unknown, steps))
                    self.assertEqual(depth(system, place), above - first)
                    self.assertEqual(meeting(system, unknown, place), place)
                    self.assertEqual(meeting(system, place, unknown), place)

    def test_a_meeting_is_the_first_common_ancestor(self):
        random = Random(67)
        for pair in great_systems(68, 42):
            system = pair.great
            unknowns = self.some_unknowns(random, system, 6)
            for _ in range(40):
                one, other = random.choice(unknowns), random.choice(unknowns)
                place = meeting(system, one, other)
                self.assertEqual(meeting(system, other, one), place)
                last = [ancestor(system, each, depth(system, each)) for each in (one, other)]
                if place is None:
                    self.assertNotEqual(last[0], last[1])
                    continue
                below = []
                for each in (one, other):
                    steps = depth(system, each) - depth(system, place)
                    self.assertEqual(ancestor(system, each, steps), place)
                    below.append(ancestor(system, each, steps - 1) if steps else None)
                self.assertTrue(None in below or below[0] != below[1])

    def test_an_unknown_has_those_of_its_children_and_these(self):
        random = Random(69)
        for pair in great_systems(70, 42):
            system = pair.great
            for unknown in self.some_unknowns(random, system, 12):
                if unknown >= system.length:
                    continue
                near = range(max(0, unknown - 16), unknown)
                children = [low for low in near if column(system, low)[:1] == [unknown]]
                self.assertEqual(descendants(system, unknown), sum(descendants(system, low) + 1 for low in children))

    def test_paths_by_hand(self):
        system = System(0, [(GREAT, [3], []), (GREAT, [3, 6], [])])
        length = 2 * GREAT
        for unknown in (0, 1, 10 ** 28, GREAT - 1, GREAT, length - 4, length - 3, length - 1):
            self.assertEqual(depth(system, unknown), (length - 1 - unknown) // 3)
            self.assertEqual(descendants(system, unknown), unknown // 3)
            self.assertEqual(ancestor(system, unknown % 3, unknown // 3), unknown)
        self.assertEqual(roots(system), 3)
        self.assertIsNone(meeting(system, 0, GREAT + 1 - GREAT % 3))
        self.assertEqual(meeting(system, 1, GREAT + 1 - GREAT % 3), GREAT + 1 - GREAT % 3)

    def test_zones_without_offsets_between(self):
        gap = (5, [], [])
        system = System(1, [(GREAT, [2], []), gap, (GREAT, [1], []), gap, (GREAT, [], [0]), (1, [], [])])
        self.assertEqual([depth(system, 0), depth(system, 1)], [GREAT // 2, GREAT // 2])
        self.assertEqual([parent(system, GREAT - 1), parent(system, GREAT)], [GREAT + 1, None])
        second = GREAT + 5
        self.assertEqual(depth(system, second), GREAT)
        self.assertEqual(descendants(system, second + GREAT), GREAT)
        self.assertEqual(roots(system), 5 + 5 + 2)
        border = 3 * GREAT + 11
        self.assertEqual(descendants(system, border), GREAT)
        self.assertEqual(parent(system, border - 2), border)
        self.assertEqual([depth(system, border), depth(system, border - 1)], [0, 0])
        self.assertEqual(meeting(system, border - 2, border - 7), border)
        self.assertIsNone(meeting(system, border - 2, border - 1))


if __name__ == "__main__":
    unittest.main()
