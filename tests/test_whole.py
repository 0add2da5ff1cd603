"""The modules beside one another: what each tells agrees with what the others tell, as the facts 8 to 12 say."""

import unittest
from functools import lru_cache
from math import gcd
from random import Random

from fillbands.alike import first_needless, first_unlike, needless, needless_in
from fillbands.columns import column, filled, first_coupled, row
from fillbands.console import Console
from fillbands.counts import fill, first_wide, room, widest, work
from fillbands.errors import NotCoupled, TooLarge
from fillbands.levels import at_level, first_at, level, steps
from fillbands.live import LiveSystem, RoomSystem
from fillbands.reaches import is_reached, nth_reached, reached, reached_room
from fillbands.systems import System
from fillbands.texts import read_system, show_system
from fillbands.tree import ancestor, depth, descendants, meeting, parent, roots
from tests.reference import EDGES, GREAT, great_systems, some_systems, some_zone, some_zones


@lru_cache(maxsize=None)
def small_systems():
    """Small systems, some of them returned by others."""
    random = Random(181)
    found = [System(borders, zones) for borders, zones in EDGES + some_systems(182, 84, 30)]
    for system in found[::4]:
        found.append(system.joined(System(system.borders, some_zones(random, system.borders, 3, 9))))
        found.append(system.cut(system.length // 4, system.length))
        if system.borders == 0:
            found.append(system.turned())
    return found


@lru_cache(maxsize=None)
def great_drawn():
    """Great systems with places in them: at the bounds of zones, deep in zones, at the border."""
    random = Random(183)
    found = []
    for pair in great_systems(184, 49):
        places = sorted({great for _, great in pair.places(random)})
        found.append((pair.great, random.sample(places, min(30, len(places)))))
    forty = None
    for at in range(0, 40, 10):
        part = System(3, [some_zone(random, 3, 10 ** 28 + at + more) for more in range(10)])
        forty = part if forty is None else forty.joined(part)
    places = [at * 10 ** 28 + random.randint(-40, 40) for at in range(1, 40)]
    return found + [(forty, places + [forty.length - 1, forty.length, forty.unknowns - 1])]


def near(system, unknown):
    """The earlier unknowns that can have an inner unknown in their columns."""
    return range(max(0, unknown - 16), unknown)


def later_neighbours(system, unknown):
    if unknown >= system.length:
        return []
    return [one for one in system.neighbours(unknown) if one > unknown]


class Small(unittest.TestCase):
    def test_ways(self):
        """Fact 8: a later unknown is in a column if a way leads there over lesser unknowns than that of the column."""
        for system in small_systems()[::3]:
            for unknown in range(system.unknowns):
                seen, queue, ends = {unknown}, [unknown], set()
                while queue:
                    for one in system.neighbours(queue.pop()):
                        if one > unknown:
                            ends.add(one)
                        elif one not in seen:
                            seen.add(one)
                            queue.append(one)
                self.assertEqual(column(system, unknown), sorted(ends))

    def test_columns_rows_and_couplings(self):
        for system in small_systems():
            total = system.unknowns
            columns = [column(system, unknown) for unknown in range(total)]
            for unknown in range(total):
                self.assertEqual(row(system, unknown), [low for low in range(total) if unknown in columns[low]])
                for other in range(unknown + 1, total):
                    has = other in columns[unknown]
                    self.assertIs(filled(system, other, unknown), has)
                    self.assertFalse(system.coupled(unknown, other) and not has)
                    self.assertEqual(self.becomes_coupled(system, unknown, other), has)

    def becomes_coupled(self, system, one, other):
        """Whether two unknowns are coupled at some time: the lesser one's column has the other one exactly then."""
        try:
            first = first_coupled(system, one, other)
        except NotCoupled:
            return False
        if first is not None:
            self.assertTrue(filled(system, first, one) and filled(system, first, other))
        self.assertIs(first is None, system.coupled(one, other))
        return True

    def test_counts_of_columns(self):
        for system in small_systems():
            total = system.unknowns
            sizes = [len(column(system, unknown)) for unknown in range(total)]
            self.assertEqual(room(system, 0, total), sum(sizes))
            self.assertEqual(room(system, 0, total), sum(len(row(system, unknown)) for unknown in range(total)))
            self.assertEqual(fill(system, 0, total) + system.couplings(), sum(sizes))
            self.assertEqual(work(system, 0, total), sum(size * (size + 3) // 2 for size in sizes))
            self.assertEqual(widest(system, 0, total), (max(sizes), first_wide(system, max(sizes))))
            self.assertEqual(roots(system), sizes.count(0))
            self.assertEqual(len(sizes) - roots(system), sum(parent(system, one) is not None for one in range(total)))

    def test_tree_levels_and_reaches(self):
        random = Random(185)
        for system in small_systems():
            total = system.unknowns
            levels = [level(system, unknown) for unknown in range(total)]
            self.assertEqual(sum(depth(system, unknown) for unknown in range(total)),
                             sum(descendants(system, unknown) for unknown in range(total)))
            self.assertEqual(steps(system), max(levels))
            for number in range(steps(system) + 2):
                self.assertEqual(at_level(system, number), levels.count(number))
                self.assertEqual(first_at(system, number), levels.index(number) if number in levels else None)
            places = [random.randrange(total) for _ in range(random.randint(1, 10))]
            ways = {ancestor(system, place, number) for place in places for number in range(depth(system, place) + 1)}
            self.assertEqual([one for one in range(total) if is_reached(system, places, one)], sorted(ways))
            self.assertEqual([nth_reached(system, places, number) for number in range(len(ways))], sorted(ways))
            self.assertEqual(reached(system, places), len(ways))
            self.assertEqual(reached_room(system, places), sum(len(column(system, one)) for one in ways))

    def test_needless_couplings_and_fill(self):
        """Without its needless couplings a system has the same columns, and as much more fill."""
        for system in small_systems():
            total = system.unknowns
            spare = []
            bare = None
            for unknown in range(system.length):
                later = later_neighbours(system, unknown)
                gone = [one for one in later if needless(system, unknown, one)]
                spare.extend((unknown, one) for one in gone)
                kept = [one for one in later if one not in gone]
                offsets = [one - unknown for one in kept if one < system.length]
                touches = [one - system.length for one in kept if one >= system.length]
                part = System(system.borders, [(1, offsets, touches)])
                bare = part if bare is None else bare.joined(part)
            self.assertEqual(needless_in(system, 0, total), len(spare))
            self.assertEqual(first_needless(system), spare[0] if spare else None)
            self.assertIsNone(first_unlike(system, bare))
            self.assertEqual(needless_in(bare, 0, total), 0)
            self.assertEqual(room(bare, 0, total), room(system, 0, total))
            self.assertEqual(fill(bare, 0, total), fill(system, 0, total) + len(spare))
            self.assertEqual([level(bare, one) for one in range(total)], [level(system, one) for one in range(total)])

    def test_first_unlike_by_columns(self):
        random = Random(186)
        for system in small_systems():
            for other in small_systems():
                if (system.borders, system.length) == (other.borders, other.length) and random.random() < 0.5:
                    differing = [
                        one for one in range(system.unknowns) if column(system, one) != column(other, one)
                    ]
                    self.assertEqual(first_unlike(system, other), differing[0] if differing else None)


class Great(unittest.TestCase):
    def test_columns_and_rows(self):
        """Facts 8 to 10."""
        for system, places in great_drawn():
            for unknown in places:
                found = column(system, unknown)
                self.assertEqual(found, sorted(set(found)))
                for one in found:
                    self.assertTrue(unknown < one and (one <= unknown + 16 or one >= system.length))
                    self.assertIs(filled(system, one, unknown), True)
                    self.assertTrue(self.is_coupled_by(system, unknown, one))
                self.assertEqual(set(later_neighbours(system, unknown)) - set(found), set())
                if unknown < system.length:
                    held = [low for low in near(system, unknown) if unknown in column(system, low)]
                    self.assertEqual(row(system, unknown), held)

    def is_coupled_by(self, system, low, high):
        """The lesser one's column has an unknown: so it is coupled with it by its turn, at first or by another."""
        first = first_coupled(system, high, low)
        if first is None:
            return system.coupled(low, high)
        return first < low and {low, high} <= set(column(system, first))

    def test_a_column_by_its_children(self):
        """Fact 9: an inner unknown's children are at most 16 places away."""
        for system, places in great_drawn():
            for unknown in places:
                if unknown >= system.length:
                    continue
                children = [low for low in near(system, unknown) if parent(system, low) == unknown]
                expected = set(later_neighbours(system, unknown))
                for child in children:
                    expected.update(column(system, child))
                self.assertEqual(column(system, unknown), sorted(expected - {unknown}))
                self.assertEqual(level(system, unknown), 1 + max([level(system, child) for child in children], default=0))
                many = sum(descendants(system, child) + 1 for child in children)
                self.assertEqual(descendants(system, unknown), many)

    def test_all_unknowns_of_a_column_are_ancestors(self):
        for system, places in great_drawn():
            for unknown in places:
                for one in column(system, unknown):
                    self.assertIs(is_reached(system, [unknown], one), True)
                    self.assertEqual(meeting(system, one, unknown), one)
                    self.assertLess(level(system, unknown), level(system, one))
                    self.assertEqual(ancestor(system, unknown, depth(system, unknown) - depth(system, one)), one)

    def test_the_way_up(self):
        for system, places in great_drawn():
            for unknown in places:
                above = parent(system, unknown)
                self.assertEqual(above, (column(system, unknown) or [None])[0])
                self.assertEqual(ancestor(system, unknown, 1), above)
                self.assertEqual(nth_reached(system, [unknown], 1), above)
                self.assertEqual(reached(system, [unknown]), depth(system, unknown) + 1)
                if above is not None:
                    self.assertEqual(depth(system, unknown), depth(system, above) + 1)
                    more = reached_room(system, [unknown]) - reached_room(system, [above])
                    self.assertEqual(more, len(column(system, unknown)))
                self.assertLessEqual(level(system, unknown) + depth(system, unknown), steps(system))
                self.assertLessEqual(first_at(system, level(system, unknown)), unknown)
                self.assertGreater(at_level(system, level(system, unknown)), 0)

    def test_long_zones(self):
        """Fact 11: deep in a zone columns have what is joined with their unknowns, and paths go on by 1."""
        random = Random(187)
        tried = 0
        for system, _ in great_drawn():
            begin = 0
            for count, offsets, _ in system.zones:
                if count > GREAT // 2 and offsets:
                    self.check_deep(system, begin + count // 2 + random.randrange(10 ** 9), offsets)
                    tried += 1
                begin += count
        self.assertGreater(tried, 60)

    def check_deep(self, system, unknown, offsets):
        greatest, step = max(offsets), gcd(*offsets)
        inner = [one - unknown for one in column(system, unknown) if one < system.length]
        joined = {more % step for more in inner} | {0}
        expected = [more for more in range(1, greatest) if more % step in joined]
        self.assertEqual(inner, expected + [greatest])
        again = [one + step if one < system.length else one for one in column(system, unknown)]
        self.assertEqual(column(system, unknown + step), again)
        self.assertEqual(level(system, parent(system, unknown)), level(system, unknown) + 1)
        path = [unknown]
        while path[-1] < unknown + step:
            path.append(parent(system, path[-1]))
        self.assertEqual(path[-1], unknown + step)
        self.assertEqual(len(path) - 1, len(joined))
        self.assertEqual(level(system, unknown + step), level(system, unknown) + len(joined))

    def test_needless_couplings(self):
        """Fact 12."""
        for system, places in great_drawn():
            for unknown in places:
                if unknown >= system.length:
                    continue
                children = [low for low in near(system, unknown) if parent(system, low) == unknown]
                spare = []
                for one in later_neighbours(system, unknown):
                    expected = any(filled(system, child, one) for child in children)
                    self.assertIs(needless(system, one, unknown), expected)
                    spare += [one] * expected
                self.assertEqual(needless_in(system, unknown, unknown + 1), len(spare))
                first = first_needless(system)
                if spare:
                    self.assertLessEqual(first, (unknown, spare[0]))
                if first is not None and unknown <= first[0]:
                    self.assertEqual(needless_in(system, 0, first[0] + 1), needless_in(system, first[0], first[0] + 1))

    def test_counts(self):
        for system, places in great_drawn():
            total = system.unknowns
            self.assertEqual(fill(system, 0, total) + system.couplings(), room(system, 0, total))
            self.assertLessEqual(needless_in(system, 0, total), system.couplings())
            most, first = widest(system, 0, total)
            self.assertEqual((first_wide(system, most), first_wide(system, most + 1)), (first, None))
            for unknown in places:
                size = len(column(system, unknown))
                self.assertLessEqual(size, most)
                self.assertEqual(room(system, unknown, unknown + 1), size)
                self.assertEqual(work(system, unknown, unknown + 1), size * (size + 3) // 2)
                fills = size - len(later_neighbours(system, unknown))
                self.assertEqual(fill(system, unknown, unknown + 1), fills)

    def test_a_changed_unknown_changes_its_ancestors_alone(self):
        """Facts 9 and 12: what differs when a coupling is left out is the column of its lesser unknown and of ancestors."""
        random = Random(188)
        for system, places in great_drawn():
            unknown = random.choice([one for one in places if 0 < one < system.length - 1])
            bare = system.cut(0, unknown).joined(System(system.borders, [(1, [], [])]))
            bare = bare.joined(system.cut(unknown + 1, system.length))
            spare = all(needless(system, unknown, one) for one in later_neighbours(system, unknown))
            self.assertEqual(first_unlike(system, bare), None if spare else unknown)
            for one in places + [unknown]:
                if column(system, one) != column(bare, one):
                    self.assertIs(is_reached(system, [unknown], one), True)
                    self.assertIs(spare, False)


class Together(unittest.TestCase):
    """Live systems, texts and the console tell what the functions tell."""

    def systems(self):
        return [(system, range(system.unknowns)) for system in small_systems()[::3]] + great_drawn()

    def test_live_systems(self):
        for system, _ in self.systems():
            entries = room(system, 0, system.unknowns)
            live, bound = LiveSystem(system), RoomSystem(system, entries)
            self.assertEqual((live.entries(), bound.entries(), bound.preview()), (entries, entries, entries))
            self.assertTrue(live.present == system and bound.present == system)
            cut = system.cut(0, (system.length + 1) // 2)
            for one in (live, bound):
                one.cut(0, (system.length + 1) // 2)
                self.assertTrue(one.present == cut)
                self.assertEqual(one.entries(), room(cut, 0, cut.unknowns))
                one.undo()
                self.assertIsNone(first_unlike(one.present, system))

    def test_texts(self):
        for system, _ in self.systems():
            if len(system.zones) <= 12 and all(len(zone[1]) <= 6 for zone in system.zones):
                again = read_system(show_system(system))
                self.assertTrue(again == system)
                self.assertIsNone(first_unlike(again, system))
                self.assertEqual(show_system(again), show_system(system))

    def test_the_console(self):
        for system, places in self.systems():
            if len(system.zones) > 12 or any(len(zone[1]) > 6 for zone in system.zones):
                continue
            console = Console()
            console.execute("system " + show_system(system))
            total = system.unknowns
            answers = [console.execute(word) for word in ("room", "fill", "work", "steps", "needless")]
            expected = [ask(system, 0, total) for ask in (room, fill, work)] + [steps(system), needless_in(system, 0, total)]
            self.assertEqual(answers, list(map(str, expected)))
            for unknown in places:
                self.assertEqual(self.listed(console, f"column {unknown}"), column(system, unknown))
                self.assertEqual(self.listed(console, f"parent {unknown}"), column(system, unknown)[:1])
                self.assertEqual(int(console.execute(f"level {unknown}")), level(system, unknown))
                self.assertEqual(int(console.execute(f"depth {unknown}")), depth(system, unknown))
                self.assertEqual(int(console.execute(f"reached {unknown}")), depth(system, unknown) + 1)
                try:
                    found = row(system, unknown)
                except TooLarge:
                    with self.assertRaises(TooLarge):
                        console.execute(f"row {unknown}")
                else:
                    self.assertEqual(self.listed(console, f"row {unknown}"), found)

    def listed(self, console, command):
        answer = console.execute(command)
        return [] if answer == "none" else list(map(int, answer.split(" ")))


if __name__ == "__main__":
    unittest.main()
