"""room, fill, work, widest and first_wide."""

import unittest
from random import Random

from fillbands.columns import column
from fillbands.counts import fill, first_wide, room, widest, work
from fillbands.systems import System
from tests.reference import GREAT, great_systems, great_trees, returned_definitions, small_definitions


def spans(total):
    return [(begin, end) for begin in range(total) for end in range(begin + 1, total + 1)]


def told_by(sizes, begin, end):
    """What room, work and widest are for a span of columns of some sizes."""
    part = sizes[begin:end]
    return sum(part), sum(s * (s + 3) // 2 for s in part), (max(part), begin + part.index(max(part)))


def asked(system, begin, end):
    return room(system, begin, end), work(system, begin, end), widest(system, begin, end)


def couplings_told(system, begin, end):
    """How many couplings have their lesser unknown in a span, by the zones."""
    many = 0
    first = 0
    for count, offsets, touches in system.zones:
        low, high = max(begin, first), min(end, first + count)
        if low < high:
            many += (high - low) * len(touches)
            many += sum(max(0, min(high, system.length - offset) - low) for offset in offsets)
        first += count
    return many


class Small(unittest.TestCase):
    def check_span(self, system, told, begin, end):
        where = (system.borders, system.zones, begin, end)
        self.assertEqual(asked(system, begin, end), told_by(told.sizes, begin, end), where)
        self.assertEqual(fill(system, begin, end), sum(told.sizes[begin:end]) - told.couplings(begin, end), where)

    def test_all_spans_of_short_systems(self):
        short = [pair for pair in small_definitions() if pair[1].total <= 16]
        self.assertGreater(len(short), 150)
        for system, told in short:
            for begin, end in spans(told.total):
                self.check_span(system, told, begin, end)

    def test_spans_of_longer_systems(self):
        random = Random(51)
        for system, told in small_definitions() + returned_definitions():
            self.check_span(system, told, 0, told.total)
            for _ in range(12):
                begin = random.randrange(told.total)
                self.check_span(system, told, begin, random.randint(begin + 1, told.total))

    def test_spans_over_the_border(self):
        for system, told in small_definitions():
            for begin, end in spans(told.total):
                if begin >= system.length or begin in (0, system.length - 1) and end >= system.length:
                    self.check_span(system, told, begin, end)

    def test_fill_is_what_the_elimination_adds(self):
        for system, told in small_definitions()[::7]:
            for begin, end in ((0, told.total), (told.total // 3, told.total // 2 + 1)):
                added = [
                    (low, high)
                    for low in range(begin, end)
                    for high in told.columns[low]
                    if (low, high) not in told.pairs
                ]
                self.assertEqual(fill(system, begin, end), len(added))

    def test_first_wide(self):
        for system, told in small_definitions() + returned_definitions():
            for size in [-(10 ** 999), -1, 0, *range(1, max(told.sizes) + 3), 23, 10 ** 99, 10 ** 999]:
                wide = [unknown for unknown, found in enumerate(told.sizes) if found >= size]
                self.assertEqual(first_wide(system, size), wide[0] if wide else None, (system.zones, size))

    def test_without_any_coupling(self):
        system = System(2, [(GREAT, [], [])])
        self.assertEqual(asked(system, 0, GREAT + 2), (0, 0, (0, 0)))
        self.assertEqual(asked(system, 5, 7), (0, 0, (0, 5)))
        self.assertEqual(asked(system, GREAT + 1, GREAT + 2), (0, 0, (0, GREAT + 1)))
        self.assertEqual([fill(system, 0, GREAT), first_wide(system, 0), first_wide(system, 1)], [0, 0, None])

    def test_widest_is_a_tuple(self):
        found = widest(System(1, [(3, [1], [0])]), 0, 4)
        self.assertIs(type(found), tuple)
        self.assertEqual(found, (2, 0))


class Great(unittest.TestCase):
    def bounds(self, pair):
        """Unknowns at the bounds of zones and around, of the border, and far within zones."""
        random = Random(52)
        found = [0, 1, pair.great.length, pair.great.unknowns]
        for _, _, begin, count, _ in pair.bounds:
            found.extend(begin + more for more in (0, 1, 17, count // 3, count - 16, count - 1))
            found.append(begin + random.randrange(count))
        return sorted({one for one in found if 0 <= one <= pair.great.unknowns})

    def test_a_span_has_what_its_parts_have(self):
        random = Random(53)
        for tree in great_trees():
            system = tree.pair.great
            bounds = self.bounds(tree.pair)
            for _ in range(60):
                begin, place, end = sorted(random.sample(bounds, 3))
                for ask in (room, fill, work):
                    self.assertEqual(ask(system, begin, end), ask(system, begin, place) + ask(system, place, end))
                one, two = widest(system, begin, place), widest(system, place, end)
                self.assertEqual(widest(system, begin, end), two if two[0] > one[0] else one)

    def test_fill_is_room_less_couplings(self):
        random = Random(54)
        for tree in great_trees():
            system = tree.pair.great
            bounds = self.bounds(tree.pair)
            spans_tried = [sorted(random.sample(bounds, 2)) for _ in range(30)] + [[0, system.unknowns]]
            for begin, end in spans_tried:
                couplings = couplings_told(system, begin, end)
                self.assertEqual(fill(system, begin, end), room(system, begin, end) - couplings)
            self.assertEqual(couplings_told(system, 0, system.unknowns), system.couplings())

    def test_short_spans_are_sums_over_columns(self):
        random = Random(55)
        for tree in great_trees():
            system = tree.pair.great
            for bound in self.bounds(tree.pair):
                begin = max(0, min(bound - random.randint(0, 30), system.unknowns - 1))
                end = min(system.unknowns, begin + random.randint(1, 60))
                sizes = [len(column(system, unknown)) for unknown in range(begin, end)]
                many, works, (most, first) = told_by(sizes, 0, len(sizes))
                self.assertEqual(asked(system, begin, end), (many, works, (most, begin + first)))

    def test_whole_periods_more(self):
        random = Random(56)
        for tree in great_trees():
            system = tree.pair.great
            for _, short_count, first, count, step in tree.pair.bounds:
                if count == short_count:
                    continue
                begin = first + random.randint(200, count // 2)
                place = begin + random.randint(1, 99)
                last = min(first + count, system.length - 16)
                self.assertEqual(widest(system, begin, place + step)[0], widest(system, begin, begin + step)[0])
                for ask in (room, fill, work):
                    one = ask(system, place, place + step)
                    for times in (1, 2, 7, 10 ** 9, (last - place) // step):
                        more = ask(system, begin, place + times * step)
                        self.assertEqual(more, ask(system, begin, place) + times * one)

    def test_as_shorter_zones_and_whole_laps_more(self):
        for tree in great_trees():
            pair, sizes = tree.pair, tree.told.sizes
            rooms, works = sum(sizes), sum(s * (s + 3) // 2 for s in sizes)
            for short, short_count, _, count, step in pair.bounds:
                laps = (count - short_count) // step
                middle = short + short_count // 2
                more = told_by(sizes, middle, middle + step) if laps else (0, 0)
                rooms += laps * more[0]
                works += laps * more[1]
            total = pair.great.unknowns
            first = pair.moved(sizes.index(max(sizes)))
            self.assertEqual(asked(pair.great, 0, total), (rooms, works, (max(sizes), first)))

    def test_widest_tells_the_first_that_has_it(self):
        random = Random(57)
        for tree in great_trees():
            system = tree.pair.great
            bounds = self.bounds(tree.pair)
            for _ in range(30):
                begin, end = sorted(random.sample(bounds, 2))
                most, first = widest(system, begin, end)
                self.assertTrue(begin <= first < end)
                self.assertEqual(len(column(system, first)), most)
                if first > begin:
                    self.assertLess(widest(system, begin, first)[0], most)
                if first + 1 < end:
                    self.assertLessEqual(widest(system, first + 1, end)[0], most)

    def test_first_wide(self):
        for tree in great_trees():
            pair, sizes = tree.pair, tree.told.sizes
            for size in range(-1, max(sizes) + 3):
                wide = [unknown for unknown, found in enumerate(sizes) if found >= size]
                self.assertEqual(first_wide(pair.great, size), pair.moved(wide[0]) if wide else None)

    def test_more_great_systems_in_parts(self):
        random = Random(58)
        for pair in great_systems(59, 42):
            bounds = self.bounds(pair)
            for _ in range(12):
                begin, place, end = sorted(random.sample(bounds, 3))
                for ask in (room, fill, work):
                    parts = ask(pair.great, begin, place) + ask(pair.great, place, end)
                    self.assertEqual(ask(pair.great, begin, end), parts)

    def test_counted_by_hand(self):
        system = System(1, [(GREAT, [2], [0]), (GREAT, [], []), (GREAT, [16], [0])])
        # The first two unknowns of the second zone are handed the border unknown by the first zone.
        self.assertEqual(room(system, 0, GREAT), 2 * GREAT)
        self.assertEqual(room(system, GREAT, 2 * GREAT), 2)
        self.assertEqual(fill(system, 0, 2 * GREAT), 2)
        self.assertEqual(room(system, 2 * GREAT, 3 * GREAT + 1), 2 * GREAT - 16)
        self.assertEqual(work(system, 0, 3 * GREAT), 5 * GREAT + 2 * 2 + 5 * (GREAT - 16) + 2 * 16)
        self.assertEqual(widest(system, GREAT, 3 * GREAT), (2, 2 * GREAT))
        self.assertEqual(widest(system, GREAT + 2, 2 * GREAT), (0, GREAT + 2))
        self.assertEqual(widest(system, 3 * GREAT - 16, 3 * GREAT + 1), (1, 3 * GREAT - 16))


if __name__ == "__main__":
    unittest.main()
