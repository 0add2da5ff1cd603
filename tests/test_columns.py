"""column, filled, row and first_coupled."""

import unittest
from itertools import product
from math import gcd
from random import Random

from fillbands.columns import column, filled, first_coupled, row
from fillbands.errors import NotCoupled, TooLarge
from fillbands.systems import System
from tests.reference import EDGES, GREAT, POOLS, coupled_pairs, eliminated, great_systems, some_systems


def first_or_never(system, one, other):
    try:
        return first_coupled(system, one, other)
    except NotCoupled:
        return "never"


class Small(unittest.TestCase):
    def check_columns(self, borders, zones):
        system = System(borders, zones)
        columns, first = eliminated(system.unknowns, coupled_pairs(borders, zones))
        for unknown, members in enumerate(columns):
            self.assertEqual(column(system, unknown), members, (borders, zones, unknown))
            holders = [low for low in range(unknown) if unknown in columns[low]]
            self.assertEqual(row(system, unknown), holders, (borders, zones, unknown))
        return system, columns, first

    def check(self, borders, zones):
        system, columns, first = self.check_columns(borders, zones)
        for one in range(system.unknowns):
            for other in range(system.unknowns):
                low, high = min(one, other), max(one, other)
                told = (borders, zones, one, other)
                self.assertIs(filled(system, one, other), high in columns[low], told)
                self.assertEqual(first_or_never(system, one, other), first.get((low, high), "never"), told)

    def test_edges(self):
        for borders, zones in EDGES:
            self.check(borders, zones)

    def test_many_small_systems(self):
        for borders, zones in some_systems(31, 364, 30):
            self.check(borders, zones)

    def test_longer_systems(self):
        for borders, zones in some_systems(32, 140, 140):
            self.check_columns(borders, zones)

    def test_all_short_zones(self):
        lists = [[], [1], [2], [3], [1, 2], [1, 3], [2, 3], [1, 2, 3]]
        for one, two in product(lists, repeat=2):
            for count in range(1, 5):
                self.check(0, [(count, one, []), (5 - count, two, [])])

    def test_all_short_zones_with_a_border(self):
        lists = [[], [1], [2], [1, 3]]
        touched = [[], [0], [1], [0, 1]]
        for one, two, touch, other in product(lists, lists, touched, touched):
            self.check(2, [(2, one, touch), (3, two, other)])

    def test_a_returned_list_is_new_each_time(self):
        system = System(1, [(6, [2], [0])])
        for ask, unknown in ((column, 0), (row, 6), (row, 3), (column, 6)):
            listed = ask(system, unknown)
            listed.append(None)
            self.assertEqual(ask(system, unknown), listed[:-1])

    def test_systems_told_by_other_zones(self):
        one = System(2, [(3, [2, 5], [1]), (4, [1], [0])])
        other = System(2, [(1, [2, 5], [1]), (2, [2, 5], [1]), (3, [1], [0]), (1, [1, 16], [0])])
        self.assertEqual([column(one, at) for at in range(9)], [column(other, at) for at in range(9)])
        self.assertEqual([row(one, at) for at in range(9)], [row(other, at) for at in range(9)])


class Great(unittest.TestCase):
    def check_place(self, pair, short, great):
        told = (pair.great.borders, pair.great.zones, great)
        for ask in (column, row):
            if ask is row and short >= pair.short.length:
                continue
            self.assertEqual(ask(pair.great, great), pair.beside(ask(pair.short, short), short, great), told)
        others = [short + more for more in range(1, 19) if short + more < pair.short.length]
        for other in others + list(range(max(short + 1, pair.short.length), pair.short.unknowns)):
            other_great, = pair.beside([other], short, great)
            self.assertIs(filled(pair.great, other_great, great), filled(pair.short, other, short), told)
            first = first_or_never(pair.short, short, other)
            if first not in (None, "never"):
                first = pair.moved(first) if short >= pair.short.length else first - short + great
            self.assertEqual(first_or_never(pair.great, other_great, great), first, (told, other))

    def test_great_zones_as_shorter_ones(self):
        random = Random(33)
        for pair in great_systems(34, 84):
            for short, great in pair.places(random):
                self.check_place(pair, short, great)

    def test_shorter_ones_by_definition(self):
        for pair in great_systems(34, 42):
            columns, _ = eliminated(pair.short.unknowns, coupled_pairs(pair.short.borders, pair.short_zones))
            self.assertEqual([column(pair.short, unknown) for unknown in range(pair.short.unknowns)], columns)

    def test_columns_of_a_single_long_zone(self):
        random = Random(35)
        for _ in range(200):
            pool = random.choice(POOLS)
            offsets = sorted(random.sample(pool, min(len(pool), random.randint(1, 2))))
            system = System(0, [(10 ** 30, offsets, [])])
            step = gcd(*offsets)
            for unknown in (10 ** 3, random.randint(10 ** 3, 10 ** 29), 10 ** 30 - 17):
                later = list(range(unknown + step, unknown + offsets[-1] + 1, step))
                self.assertEqual(column(system, unknown), later)
                self.assertEqual(row(system, unknown), list(range(unknown - offsets[-1], unknown, step)))
            self.assertEqual(column(system, 10 ** 30 - 1), [])

    def test_remainders_that_earlier_zones_join(self):
        plain = System(0, [(GREAT, [6], [])])
        self.assertEqual(column(plain, 10 ** 20), [10 ** 20 + 6])
        joining = System(0, [(1, [1, 3], []), (GREAT, [6], [])])
        for unknown in (10 ** 20, 10 ** 20 + 1, 10 ** 20 + 2, GREAT - 20):
            members = [unknown + 6]
            if (unknown - 1) % 6 in (0, 2):
                other = 2 if (unknown - 1) % 6 == 0 else 4
                members = [unknown + other, unknown + 6]
            self.assertEqual(column(joining, unknown), members)

    def test_borders_that_are_coupled_through_what_lies_ahead(self):
        zones = [(1, [3], [0]), (2, [3], [1]), (GREAT, [3], []), (GREAT, [2], []), (1, [], [2])]
        system = System(3, zones)
        length = 2 * GREAT + 4
        for unknown in (9, 10 ** 20, GREAT - 1):
            border = [length + (0 if unknown % 3 == 0 else 1)]
            self.assertEqual(column(system, unknown), [unknown + 3, *border])
            self.assertIs(filled(system, length, unknown), unknown % 3 == 0)
        # Of the first three unknowns of the second great zone, GREAT + 3 and GREAT + 4 are
        # handed the border unknown 1 and GREAT + 5 the border unknown 0.
        for unknown in (GREAT + 40, length - 20):
            self.assertEqual(column(system, unknown), [unknown + 2, length + 1])
        for unknown in (GREAT + 5, GREAT + 41, length - 21):
            self.assertEqual(column(system, unknown), [unknown + 2, length, length + 1])
        self.assertEqual(column(system, length - 1), [length, length + 1, length + 2])
        self.assertEqual(column(system, length), [length + 1, length + 2])
        self.assertEqual(column(system, length + 1), [length + 2])
        self.assertEqual(column(system, length + 2), [])
        self.assertEqual(row(system, length + 2), [length - 1, length, length + 1])
        self.assertEqual(first_coupled(system, length + 2, length), length - 1)
        self.assertEqual(first_coupled(system, length + 1, length), GREAT + 5)
        with self.assertRaises(NotCoupled):
            first_coupled(system, length, GREAT + 6)

    def test_a_border_row_is_told_in_full_up_to_a_thousand(self):
        system = System(2, [(1, [1], [0]), (600, [], [1]), (400, [], [0]), (GREAT, [7], []), (399, [], [0, 1])])
        end = GREAT + 1001
        # Unknown 1 is handed the border unknown 0 by unknown 0.
        self.assertEqual(row(system, end + 399), [0, 1, *range(601, 1001), *range(end, end + 399)])
        self.assertEqual(row(system, end + 400), [*range(1, 601), *range(end, end + 399), end + 399])
        self.assertEqual(len(row(system, end + 400)), 1000)
        system = System(2, [(1, [1], [0]), (600, [], [1]), (400, [], [0]), (GREAT, [7], []), (400, [], [0, 1])])
        self.assertEqual(len(row(system, end + 400)), 802)
        with self.assertRaises(TooLarge) as caught:
            row(system, end + 401)
        self.assertEqual(caught.exception.limit, 1000)

    def test_a_border_row_across_a_long_zone(self):
        for many in (1, 2, 18, 999, 1000, 1001, 10 ** 20):
            for more in (0, 1):
                length = 2 * many - more
                zones = [(1, [2], [0]), (length - 1, [2], [])] if length > 1 else [(1, [2], [0])]
                system = System(1, zones)
                if many <= 1000:
                    self.assertEqual(row(system, length), list(range(0, length, 2)))
                else:
                    with self.assertRaises(TooLarge):
                        row(system, length)

    def test_never_coupled(self):
        system = System(2, [(GREAT, [2], [0]), (GREAT, [], [])])
        length = 2 * GREAT
        never = [(0, 1), (0, GREAT), (5, 5), (length, length), (length, length + 1), (length - 1, length), (0, length + 1)]
        for one, other in never:
            for pair in ((one, other), (other, one)):
                with self.assertRaises(NotCoupled):
                    first_coupled(system, *pair)
        self.assertIsNone(first_coupled(system, 7, length))
        self.assertEqual(first_coupled(system, GREAT, length), GREAT - 2)
        self.assertIs(filled(system, length, GREAT), True)
        self.assertIs(filled(system, 7, 7), False)


if __name__ == "__main__":
    unittest.main()
