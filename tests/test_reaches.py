"""reached, is_reached, nth_reached and reached_room."""

import unittest
from random import Random

from fillbands.columns import column
from fillbands.counts import room
from fillbands.reaches import is_reached, nth_reached, reached, reached_room
from fillbands.systems import System
from fillbands.tree import ancestor, depth, meeting, parent
from tests.reference import GREAT, great_systems, great_trees, returned_definitions, small_definitions


def some_places(random, total, told=None):
    """One to ten places, in any sequence, some several times, some ancestors of others, some at the end."""
    places = [random.randrange(total) for _ in range(random.randint(1, 10))]
    if random.random() < 0.5:
        places[-1] = random.choice(places)
    if random.random() < 0.5:
        places[0] = total - 1 - random.randrange(min(total, 8))
    if told is not None and len(places) < 10 and random.random() < 0.5:
        places.append(random.choice(told.ways[places[0]]))
    random.shuffle(places)
    return places


class Small(unittest.TestCase):
    def check(self, system, told, places):
        where = (system.borders, system.zones, places)
        found = told.reached(places)
        passed = list(places)
        self.assertEqual(reached(system, places), len(found), where)
        self.assertEqual(reached_room(system, places), sum(told.sizes[unknown] for unknown in found), where)
        nths = [nth_reached(system, places, number) for number in range(len(found) + 2)]
        self.assertEqual(nths, [*found, None, None], where)
        for unknown in range(told.total):
            self.assertIs(is_reached(system, places, unknown), unknown in found, where)
        self.assertEqual(places, passed)

    def test_many_small_systems(self):
        random = Random(91)
        for system, told in small_definitions() + returned_definitions():
            for _ in range(2):
                self.check(system, told, some_places(random, told.total, told))

    def test_each_single_place_of_short_systems(self):
        for system, told in small_definitions():
            if told.total <= 14:
                for place in range(told.total):
                    self.check(system, told, [place])

    def test_the_sequence_and_repeated_places_play_no_part(self):
        random = Random(92)
        for system, told in small_definitions()[::5]:
            places = some_places(random, told.total)[:5]
            one = (reached(system, places), reached_room(system, places), nth_reached(system, places, 1))
            for other in (places[::-1], places + places, [places[0]] * 5 + places):
                two = (reached(system, other), reached_room(system, other), nth_reached(system, other, 1))
                self.assertEqual(two, one)

    def test_far_beyond_all(self):
        system = System(1, [(4, [1], [0])])
        for number in (5, 6, 10 ** 30, 10 ** 99, 10 ** 999):
            self.assertIsNone(nth_reached(system, [0], number))
        self.assertEqual(nth_reached(system, [0, 3, 4], 4), 4)

    def test_ten_places_of_twelve_and_a_border(self):
        system = System(2, [(12, [], [0])])
        places = [11, 3, 5, 7, 0, 9, 1, 2, 4, 6]
        self.assertEqual([reached(system, places), reached_room(system, places)], [11, 10])
        self.assertEqual([is_reached(system, places, unknown) for unknown in (8, 10, 12, 13)], [False, False, True, False])
        self.assertEqual([nth_reached(system, places, number) for number in (8, 9, 10, 11)], [9, 11, 12, None])


class Shorter(unittest.TestCase):
    """Great systems as their shorter ones, moved on, with what the great zones have more."""

    def test_reached(self):
        random = Random(93)
        for tree in great_trees():
            great, moved = tree.pair.great, tree.pair.moved
            for _ in range(25):
                places = some_places(random, tree.told.total, tree.told)
                great_places = [moved(place) for place in places]
                found = (reached(great, great_places), reached_room(great, great_places))
                self.assertEqual(found, tree.reached(places), (great.zones, places))

    def test_each_of_them(self):
        random = Random(94)
        for tree in great_trees():
            great, moved = tree.pair.great, tree.pair.moved
            for _ in range(6):
                places = some_places(random, tree.told.total, tree.told)
                great_places = [moved(place) for place in places]
                found = tree.told.reached(places)
                for unknown in random.sample(range(tree.told.total), min(40, tree.told.total)):
                    self.assertIs(is_reached(great, great_places, moved(unknown)), unknown in found)
                for unknown in random.sample(found, min(40, len(found))):
                    number = tree.reached_before(places, unknown)
                    self.assertEqual(nth_reached(great, great_places, number), moved(unknown))
                for unknown in tree.hidden:
                    for steps in (1, 5, random.randint(1, tree.many_hidden(unknown))):
                        place = tree.behind(unknown, steps)
                        self.assertIs(is_reached(great, great_places, place), unknown in found)


class Great(unittest.TestCase):
    def places(self, random, pair):
        """Places anywhere, in the same zone, near one another, and at the ends."""
        system = pair.great
        _, _, begin, count, step = random.choice(pair.bounds)
        near = begin + random.randrange(count)
        found = [random.randrange(system.unknowns), begin + random.randrange(count), near]
        found.append(min(near + random.randint(1, 60), system.unknowns - 1))
        found.append(min(near + step * random.randint(1, 10 ** 9), system.unknowns - 1))
        found.append(random.randint(0, min(50, system.unknowns - 1)))
        found.append(system.unknowns - 1 - random.randint(0, min(30, system.unknowns - 1)))
        random.shuffle(found)
        return found[:random.randint(1, 7)]

    def test_one_place(self):
        random = Random(95)
        for pair in great_systems(96, 42):
            system = pair.great
            for place in self.places(random, pair) + self.places(random, pair):
                self.assertEqual(reached(system, [place]), depth(system, place) + 1)
                self.assertEqual(nth_reached(system, [place], 0), place)
                for number in (1, 5, depth(system, place), depth(system, place) // 2, depth(system, place) + 1):
                    self.assertEqual(nth_reached(system, [place], number), ancestor(system, place, number))
                above = parent(system, place)
                rest = 0 if above is None else reached_room(system, [above])
                self.assertEqual(reached_room(system, [place]), rest + len(column(system, place)))

    def test_two_places(self):
        random = Random(97)
        for pair in great_systems(98, 84):
            system = pair.great
            places = self.places(random, pair)
            for one in places:
                for other in places:
                    place = meeting(system, one, other)
                    for ask in (reached, reached_room):
                        both = ask(system, [one]) + ask(system, [other])
                        both -= 0 if place is None else ask(system, [place])
                        self.assertEqual(ask(system, [one, other]), both)

    def test_many_places_one_behind_the_other(self):
        random = Random(99)
        for pair in great_systems(100, 84):
            system = pair.great
            places = (self.places(random, pair) + self.places(random, pair))[:10]
            many = rooms = 0
            for at, place in enumerate(places):
                joins = [meeting(system, place, other) for other in places[:at]]
                first = min((join for join in joins if join is not None), default=None)
                many += reached(system, [place]) - (0 if first is None else reached(system, [first]))
                rooms += reached_room(system, [place]) - (0 if first is None else reached_room(system, [first]))
                self.assertEqual(reached(system, places[:at + 1]), many)
                self.assertEqual(reached_room(system, places[:at + 1]), rooms)

    def test_the_nth_rises_and_is_reached(self):
        random = Random(101)
        for pair in great_systems(102, 42):
            system = pair.great
            places = self.places(random, pair)
            many = reached(system, places)
            numbers = {0, 1, 2, many - 1, many // 2, many // 2 + 1, *(random.randrange(many) for _ in range(20))}
            numbers = sorted(number for number in numbers if number < many)
            found = [nth_reached(system, places, number) for number in numbers]
            self.assertEqual(found[0], min(places))
            self.assertEqual([nth_reached(system, places, many), nth_reached(system, places, many + 1)], [None, None])
            for (one, low), (two, high) in zip(zip(numbers, found), list(zip(numbers, found))[1:]):
                self.assertLessEqual(two - one, high - low)
                self.assertLess(low, high)
                if two == one + 1:
                    self.assertFalse(any(is_reached(system, places, low + more) for more in range(1, min(40, high - low))))
            for place in found + places:
                self.assertIs(is_reached(system, places, place), True)

    def test_all_unknowns_of_one_path(self):
        system = System(6, [(GREAT, [1, 5], []), (GREAT, [2, 3], [0, 1, 2, 3, 4, 5])])
        total = system.unknowns
        self.assertEqual(reached(system, [0]), total)
        self.assertEqual(reached_room(system, [0]), room(system, 0, total))
        self.assertEqual(nth_reached(system, [0, 9, 10 ** 20], 12 ** 24), 12 ** 24)
        for begin in (1, GREAT - 1, GREAT + 10 ** 9, total - 1):
            self.assertEqual(reached_room(system, [begin]), room(system, begin, total))
            self.assertIs(is_reached(system, [begin], begin - 1), False)

    def test_paths_by_hand(self):
        system = System(0, [(GREAT, [4], [])])
        self.assertEqual(reached(system, [0, 1]), GREAT // 2)
        self.assertEqual(reached(system, [10 ** 20, 3, 10 ** 28, 4]), GREAT // 2 - 1)
        self.assertEqual([nth_reached(system, [2, 5], number) for number in range(5)], [2, 5, 6, 9, 10])
        self.assertEqual(nth_reached(system, [2, 5], 10 ** 27 + 1), 2 * 10 ** 27 + 5)
        self.assertEqual([nth_reached(system, [41, 3], number) for number in (8, 9, 10, 11, 12)], [35, 39, 41, 43, 45])
        self.assertEqual(is_reached(system, [41, 3], 10 ** 28 + 1), True)
        self.assertEqual(is_reached(system, [41, 3], 10 ** 28 + 2), False)
        self.assertEqual(is_reached(system, [10 ** 28 + 5, 3], 10 ** 28 + 1), False)


if __name__ == "__main__":
    unittest.main()
