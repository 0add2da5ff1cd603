"""first_unlike, needless, needless_in and first_needless."""

import unittest
from random import Random

from fillbands.alike import first_needless, first_unlike, needless, needless_in
from fillbands.columns import column
from fillbands.errors import NotCoupled
from fillbands.systems import System
from tests.reference import (
    EDGES,
    GREAT,
    Definition,
    eliminated,
    great_systems,
    returned_definitions,
    small_definitions,
    some_systems,
    some_zone,
)
from tests.variants import changed_at, columns_without, first_difference, needless_pairs, variants


class FirstUnlike(unittest.TestCase):
    def check(self, one, other, expected, where):
        self.assertEqual(first_unlike(one, other), expected, where)
        self.assertEqual(first_unlike(other, one), expected, where)

    def test_small_systems_and_their_variants(self):
        random = Random(111)
        differences = []
        for borders, zones in EDGES + some_systems(112, 168, 36):
            told = Definition(borders, zones)
            for variant in variants(random, borders, zones):
                expected = first_difference(told.columns, Definition(borders, variant).columns)
                self.check(System(borders, zones), System(borders, variant), expected, (borders, zones, variant))
                differences.append(expected)
        self.assertGreater(differences.count(None), 300)
        self.assertGreater(len(differences) - differences.count(None), 500)
        self.assertGreater(len(set(differences)), 20)

    def test_all_pairs_of_as_many_unknowns(self):
        for borders in range(7):
            random = Random(113 + borders)
            systems = []
            for count in (1, 2, 5, 20):
                zones = [some_zone(random, borders, count) for _ in range(5)] + [(count, [], [])]
                systems.extend((System(borders, [zone]), Definition(borders, [zone])) for zone in zones)
            for one, told in systems:
                for other, told_other in systems:
                    if one.length == other.length:
                        expected = first_difference(told.columns, told_other.columns)
                        self.check(one, other, expected, (one.zones, other.zones))

    def test_a_difference_in_touches_alone(self):
        one = System(2, [(1, [], [0, 1]), (3, [], [])])
        self.check(one, System(2, [(1, [], [0, 1]), (2, [], []), (1, [], [0, 1])]), 3, "more")
        self.check(one, System(2, [(1, [], [0]), (3, [], [])]), 0, "less")
        handed = System(2, [(1, [2], [0, 1]), (1, [1], [1]), (1, [], [])])
        self.check(handed, System(2, [(1, [2], [0, 1]), (1, [1], [1]), (1, [], [0, 1])]), None, "handed on")
        self.check(handed, System(2, [(1, [2], [0]), (1, [1], [1]), (1, [], [0, 1])]), 0, "not handed on")

    def test_border_unknowns_are_never_the_first_ones(self):
        """Their columns come of those of the inner ones: other systems with the same inner ones have the same."""
        for borders, zones in some_systems(114, 84, 20):
            told = Definition(borders, zones)
            inner = told.total - borders
            again = {(low, high) for low in range(inner) for high in told.columns[low]}
            self.assertEqual(eliminated(told.total, again)[0], told.columns)

    def test_needless_couplings_left_out(self):
        """A system whose unknowns each stand in a zone of their own, without some that are needless."""
        random = Random(115)
        tried = 0
        for system, told in small_definitions():
            spare = needless_pairs(told) if told.total <= 30 else []
            if not spare:
                continue
            for gone in ([spare[0]], [spare[-1]], spare, random.sample(spare, random.randint(1, len(spare)))):
                self.check(system, self.without(system, told, gone), None, (system.zones, gone))
            needed = sorted(told.pairs - set(spare))
            low, high = random.choice(needed)
            self.check(system, self.without(system, told, [*spare, (low, high)]), low, (system.zones, low, high))
            tried += 1
        self.assertGreater(tried, 200)

    def without(self, system, told, gone):
        """A system without some couplings, told unknown by unknown."""
        found = None
        for unknown in range(system.length):
            later = [high for low, high in told.pairs if low == unknown and (low, high) not in gone]
            offsets = sorted(high - unknown for high in later if high < system.length)
            touches = sorted(high - system.length for high in later if high >= system.length)
            one = System(system.borders, [(1, offsets, touches)])
            found = one if found is None else found.joined(one)
        return found

    def test_systems_that_were_returned(self):
        random = Random(116)
        for system, told in returned_definitions():
            self.check(system, system.cut(0, system.length), None, system.zones)
            for _ in range(4):
                at = random.randrange(system.length)
                head = None if at == 0 else system.cut(0, at)
                one = System(system.borders, [some_zone(random, system.borders, 1)])
                other = one if head is None else head.joined(one)
                if at + 1 < system.length:
                    other = other.joined(system.cut(at + 1, system.length))
                expected = first_difference(told.columns, Definition(other.borders, other.zones).columns)
                self.check(system, other, expected, (system.zones, other.zones))

    def test_great_zones_told_otherwise(self):
        random = Random(117)
        for pair in great_systems(118, 28):
            system = pair.great
            parts = []
            for count, offsets, touches in system.zones:
                first = random.randint(1, count - 1) if count > 1 else 1
                parts.extend((many, offsets, touches) for many in (first, count - first) if many)
            self.check(system, System(system.borders, parts), None, parts)

    def test_one_unknown_deep_in_a_great_zone(self):
        """It is the first unlike one, unless the coupling is needless in the system that has it."""
        random = Random(119)
        found = []
        for pair in great_systems(120, 84):
            system = pair.great
            for begin, count in [(begin, count) for _, _, begin, count, _ in pair.bounds if count > 10 ** 9]:
                at = begin + random.choice([count // 2, random.randrange(count), 10 ** 20, count - 10 ** 9, 77])
                other = System(system.borders, changed_at(random, system.borders, system.zones, at))
                more, less = set(other.neighbours(at)), set(system.neighbours(at))
                changed = [one for one in more ^ less if one > at]
                self.assertEqual(len(changed), 1, at)
                richer = other if len(more) > len(less) else system
                expected = None if needless(richer, at, changed[0]) else at
                self.check(system, other, expected, (system.zones, other.zones))
                found.append(expected)
        self.assertGreater(found.count(None), 20)
        self.assertGreater(len(found) - found.count(None), 50)

    def test_great_systems_by_shorter_ones(self):
        """One unknown is changed in the great system and in the one with shorter zones, where it stands alike."""
        random = Random(121)
        differences = 0
        for pair in great_systems(122, 28):
            told = Definition(pair.short.borders, pair.short_zones)
            places = [place for place in pair.places(random) if place[0] < pair.short.length]
            for short, great in random.sample(places, min(6, len(places))):
                state = random.getstate()
                one = changed_at(random, pair.short.borders, pair.short_zones, short)
                random.setstate(state)
                two = changed_at(random, pair.great.borders, self.as_given(pair), great)
                expected = first_difference(told.columns, Definition(pair.short.borders, one).columns)
                if expected is not None:
                    self.assertEqual(expected, short)
                    expected = great
                    differences += 1
                self.check(pair.great, System(pair.great.borders, two), expected, (two, great))
        self.assertGreater(differences, 40)

    def as_given(self, pair):
        """The zones of the great system, one for each of the short ones."""
        return [(bound[3], zone[1], zone[2]) for bound, zone in zip(pair.bounds, pair.short_zones)]

    def test_at_the_very_end(self):
        one = System(0, [(10 ** 30, [16], [])])
        self.check(one, System(0, [(10 ** 30 - 1, [16], []), (1, [], [])]), None, "leads beyond")
        self.check(one, System(0, [(10 ** 30 - 16, [16], []), (16, [1], [])]), 10 ** 30 - 16, "within")
        self.check(one, System(0, [(10 ** 30 - 17, [16], []), (17, [], [])]), 10 ** 30 - 17, "one less")
        other = System(0, [(10 ** 30 - 2, [16], []), (2, [1], [])])
        self.check(one, other, 10 ** 30 - 2, "the last but one")

    def test_zones_whose_periods_differ(self):
        for one, other, expected in (([15], [16], 0), ([14], [7, 14], 0), ([8, 16], [8], None), ([2], [1, 2], 0)):
            systems = [System(0, [(GREAT, offsets, [])]) for offsets in (one, other)]
            told = [Definition(0, [(400, offsets, [])]).columns for offsets in (one, other)]
            difference = first_difference(told[0], told[1])
            self.assertEqual(difference, expected if expected is not None else difference)
            self.check(systems[0], systems[1], difference, (one, other))


class SmallNeedless(unittest.TestCase):
    def test_all_couplings_of_small_systems(self):
        many = 0
        for system, told in small_definitions() + returned_definitions():
            if told.total > 36:
                continue
            spare = needless_pairs(told)
            for low, high in sorted(told.pairs):
                expected = (low, high) in spare
                self.assertIs(needless(system, low, high), expected, (system.zones, low, high))
                self.assertIs(needless(system, high, low), expected, (system.zones, high, low))
            self.assertEqual(first_needless(system), spare[0] if spare else None, system.zones)
            many += len(spare)
        self.assertGreater(many, 2000)

    def test_all_spans_of_short_systems(self):
        for system, told in small_definitions():
            if told.total > 15:
                continue
            spare = needless_pairs(told)
            for begin in range(told.total):
                for end in range(begin + 1, told.total + 1):
                    expected = sum(begin <= low < end for low, _ in spare)
                    self.assertEqual(needless_in(system, begin, end), expected, (system.zones, begin, end))

    def test_spans_of_longer_systems(self):
        random = Random(123)
        for system, told in small_definitions()[::3] + returned_definitions()[::3]:
            spare = needless_pairs(told)
            self.assertEqual(needless_in(system, 0, told.total), len(spare))
            for _ in range(12):
                begin = random.randrange(told.total)
                end = random.randint(begin + 1, told.total)
                self.assertEqual(needless_in(system, begin, end), sum(begin <= low < end for low, _ in spare))

    def test_all_of_them_can_be_left_out_together(self):
        for system, told in small_definitions() + returned_definitions():
            if told.total <= 40:
                gone = [pair for pair in sorted(told.pairs) if needless(system, *pair)]
                self.assertEqual(len(gone), needless_in(system, 0, told.total))
                self.assertEqual(columns_without(told, gone), told.columns, system.zones)

    def test_pairs_that_are_not_coupled(self):
        become = 0
        for system, told in small_definitions()[::4]:
            for low in range(told.total):
                for high in range(low, told.total):
                    if (low, high) not in told.pairs:
                        for pair in ((low, high), (high, low)):
                            with self.assertRaises(NotCoupled):
                                needless(system, *pair)
                        become += high in told.columns[low]
        self.assertGreater(become, 500)

    def test_nothing_is_needless(self):
        for borders, zones in (
            (0, [(1, [], [])]),
            (0, [(9, [16], [])]),
            (6, [(1, [1], [0, 1, 2, 3, 4, 5])]),
            (2, [(GREAT, [], [0, 1])]),
            (1, [(GREAT, [3], [])]),
        ):
            system = System(borders, zones)
            self.assertIsNone(first_needless(system))
            self.assertEqual(needless_in(system, 0, system.unknowns), 0)

    def test_first_needless_is_a_tuple(self):
        found = first_needless(System(1, [(3, [1], [0])]))
        self.assertIs(type(found), tuple)
        self.assertEqual(found, (1, 3))


class GreatNeedless(unittest.TestCase):
    def needless_of(self, system, unknown):
        """The needless couplings of an unknown with later ones, by the columns of those whose parent it is."""
        later = [one for one in system.neighbours(unknown) if one > unknown]
        children = [low for low in range(max(0, unknown - 16), unknown) if column(system, low)[:1] == [unknown]]
        return [one for one in later if any(one in column(system, child) for child in children)]

    def test_near_the_bounds_and_deep_in_zones(self):
        random = Random(124)
        for pair in great_systems(125, 28):
            system = pair.great
            places = [great for _, great in pair.places(random) if great < system.length]
            for great in random.sample(places, min(25, len(places))):
                expected = self.needless_of(system, great)
                self.assertEqual(needless_in(system, great, great + 1), len(expected))
                for one in system.neighbours(great):
                    if one > great:
                        self.assertIs(needless(system, great, one), one in expected)
                        self.assertIs(needless(system, one, great), one in expected)

    def test_as_in_shorter_zones(self):
        random = Random(126)
        for pair in great_systems(127, 28):
            spare = first_needless(pair.short)
            if spare is None:
                self.assertIsNone(first_needless(pair.great))
                continue
            self.assertEqual(first_needless(pair.great), tuple(map(pair.moved, spare)))
            places = pair.places(random)
            for short, great in random.sample(places, min(12, len(places))):
                expected = needless_in(pair.short, short, short + 1)
                self.assertEqual(needless_in(pair.great, great, great + 1), expected)

    def test_whole_steps_more(self):
        """A great zone has, for each step by which it is longer, what the shorter one has in a step of its middle."""
        for pair in great_systems(128, 42):
            expected = needless_in(pair.short, 0, pair.short.unknowns)
            for short, short_count, _, count, step in pair.bounds:
                middle = short + short_count // 2
                if count > short_count:
                    expected += (count - short_count) // step * needless_in(pair.short, middle, middle + step)
            self.assertEqual(needless_in(pair.great, 0, pair.great.unknowns), expected)

    def test_spans_add_up_wherever_they_are_parted(self):
        random = Random(129)
        for pair in great_systems(130, 42):
            system = pair.great
            bounds = {0, 1, system.length, system.unknowns}
            for _, _, begin, count, _ in pair.bounds:
                bounds.update(begin + more for more in (0, 1, 17, count // 3, count - 16, count - 1))
                bounds.add(begin + random.randrange(count))
            bounds = sorted(one for one in bounds if 0 <= one <= system.unknowns)
            for _ in range(60):
                if len(bounds) < 3:
                    break
                begin, place, end = sorted(random.sample(bounds, 3))
                parts = needless_in(system, begin, place) + needless_in(system, place, end)
                self.assertEqual(needless_in(system, begin, end), parts)

    def test_counted_by_hand(self):
        # From 1 on, the column of the unknown before has the next one, too.
        system = System(0, [(10 ** 30, [1, 2], [])])
        self.assertEqual(needless_in(system, 0, 10 ** 30), 10 ** 30 - 2)
        self.assertEqual(first_needless(system), (1, 2))
        self.assertIs(needless(system, 10 ** 29, 10 ** 29 + 1), True)
        self.assertIs(needless(system, 10 ** 29, 10 ** 29 + 2), False)
        border = System(1, [(10 ** 30, [1], [0])])
        self.assertEqual(needless_in(border, 0, 10 ** 30 + 1), 10 ** 30 - 1)
        self.assertEqual(needless_in(border, 10 ** 30, 10 ** 30 + 1), 0)
        self.assertEqual(needless_in(border, 10 ** 30 - 1, 10 ** 30 + 1), 1)
        self.assertEqual(first_needless(border), (1, 10 ** 30))

    def test_forty_zones(self):
        random = Random(131)
        for borders in (0, 6):
            parts = [some_zone(random, borders, 10 ** 28 + at) for at in range(40)]
            system = System(borders, parts[:12])
            for at in (12, 24, 36):
                system = system.joined(System(borders, parts[at:at + 12]))
            self.assertEqual(system.length, sum(part[0] for part in parts))
            middle = 15 * 10 ** 28
            parts_told = needless_in(system, 0, middle) + needless_in(system, middle, system.unknowns)
            self.assertEqual(needless_in(system, 0, system.unknowns), parts_told)
            self.assertIsNone(first_unlike(system, system.cut(0, system.length)))
            at = 33 * 10 ** 28
            other = system.cut(0, at).joined(System(borders, [(1, [], [])])).joined(system.cut(at + 1, system.length))
            later = [one for one in system.neighbours(at) if one > at]
            expected = None if all(needless(system, at, one) for one in later) else at
            self.assertEqual(first_unlike(system, other), expected)
            self.assertEqual(first_unlike(other, system), expected)


if __name__ == "__main__":
    unittest.main()
