"""LiveSystem: present, entries, ==, add, cut, turn, undo, log and preview."""

import copy
import unittest
from random import Random

from fillbands.counts import room
from fillbands.errors import InvalidZones, Nothing
from fillbands.live import LiveSystem
from fillbands.systems import System
from tests.kept import Kept, kept_of, perform, rows_of, some_operation
from tests.reference import EDGES, GREAT, great_systems, some_systems, some_zone, some_zones

MOST = 10 ** 30


def spoil(operation):
    """Change the lists within an operation."""
    if operation[0] == "add":
        _, (_, offsets, touches) = operation
        offsets.append(99)
        touches.clear()
        offsets.reverse()


def zones_unlike(number, count=1):
    """So many zones of which no neighbours are alike."""
    return [(count, [at % 2 + 1], []) for at in range(number)]


def system_of(borders, zones):
    """The system of zones that may be more than twelve."""
    found = System(borders, zones[:12])
    for at in range(12, len(zones), 12):
        found = found.joined(System(borders, zones[at:at + 12]))
    return found


class LiveCase(unittest.TestCase):
    def check(self, live, kept, log):
        """Everything that a live system tells, against one kept unknown by unknown and a list of operations."""
        self.assertEqual((live.present.borders, live.present.zones), (kept.borders, kept.zones()))
        self.assertTrue(live.present == system_of(kept.borders, kept.zones()))
        self.assertEqual(live.entries(), kept.entries())
        self.assertEqual(live.log(), log)


class Drawn(LiveCase):
    def test_calls_of_all_kinds(self):
        random = Random(151)
        calls = {"add": 0, "cut": 0, "turn": 0, "undo": 0}
        for borders, zones in EDGES[:8] + some_systems(152, 140, 20):
            live = LiveSystem(System(borders, zones))
            states = [Kept(borders, rows_of(zones))]
            log = []
            for _ in range(20):
                if random.random() < 0.3:
                    self.undo_one(live, states, log)
                    calls["undo"] += 1
                else:
                    operation = some_operation(random, states[-1], 40)
                    states.append(states[-1].after(operation))
                    log.append(copy.deepcopy(operation))
                    self.assertIsNone(perform(live, operation))
                    spoil(operation)
                    calls[operation[0]] += 1
                self.check(live, states[-1], log)
            while log:
                self.undo_one(live, states, log)
                self.check(live, states[-1], log)
            self.undo_one(live, states, log)
        self.assertGreater(min(calls.values()), 80)

    def undo_one(self, live, states, log):
        if not log:
            with self.assertRaises(Nothing):
                live.undo()
            return
        self.assertIsNone(live.undo())
        states.pop()
        log.pop()

    def test_previews(self):
        random = Random(153)
        for borders, zones in EDGES[:8] + some_systems(154, 84, 20):
            live = LiveSystem(System(borders, zones))
            for number in (0, 1, 2, 5, 12):
                kept = kept_of(live.present)
                operations = []
                for _ in range(number):
                    operations.append(some_operation(random, kept, 30))
                    kept = kept.after(operations[-1])
                passed = copy.deepcopy(operations)
                before = (live.present.zones, live.entries(), live.log())
                self.assertEqual(live.preview(*operations), kept.entries())
                self.assertEqual((live.present.zones, live.entries(), live.log()), before)
                self.assertEqual(operations, passed)
                other = LiveSystem(live.present)
                for operation in operations:
                    perform(other, operation)
                self.assertEqual(other.entries(), kept.entries())
                self.assertEqual(other.preview(), kept.entries())
                if operations:
                    perform(live, operations[0])

    def test_a_log_leads_to_the_same_system(self):
        random = Random(155)
        for borders, zones in some_systems(156, 42, 20):
            live = LiveSystem(System(borders, zones))
            kept = kept_of(live.present)
            for _ in range(random.randint(1, 12)):
                operation = some_operation(random, kept, 30)
                perform(live, operation)
                kept = kept.after(operation)
            other = LiveSystem(System(borders, zones))
            self.assertEqual(other.preview(*live.log()), live.entries())
            for operation in live.log():
                perform(other, operation)
            self.assertTrue(other == live)
            self.assertEqual(other.log(), live.log())


class Apart(LiveCase):
    """What is passed and what is returned can be changed without changing a live system."""

    def test_a_zone_that_the_caller_changes_later(self):
        live = LiveSystem(System(2, [(4, [1, 3], [1])]))
        zone = (3, [2, 5], [0])
        live.add(zone)
        zone[1][0] = 1
        zone[2].extend([1, 2])
        self.assertEqual(live.log(), [("add", (3, [2, 5], [0]))])
        self.assertEqual(live.present.zones, [(4, [1, 3], [1]), (3, [2, 5], [0])])
        live.add(zone[:1] + ([1], [1]))
        live.undo()
        self.assertEqual(live.present.zones, [(4, [1, 3], [1]), (3, [2, 5], [0])])

    def test_the_lists_of_a_log_are_new(self):
        live = LiveSystem(System(2, [(4, [1, 3], [1])]))
        live.add((3, [2, 5], [0]))
        live.cut(1, 6)
        first, second = live.log(), live.log()
        self.assertEqual(first, second)
        self.assertIsNot(first, second)
        self.assertIsNot(first[0][1][1], second[0][1][1])
        self.assertIsNot(first[0][1][2], second[0][1][2])
        spoil(first[0])
        first.clear()
        expected = [("add", (3, [2, 5], [0])), ("cut", 1, 6)]
        self.assertEqual((second, live.log()), (expected, expected))

    def test_the_kinds_of_a_log(self):
        live = LiveSystem(System(0, [(4, [1, 3], [])]))
        live.add((3, [2, 5], []))
        live.cut(1, 6)
        live.turn()
        self.assertIs(type(live.log()), list)
        self.assertEqual([type(call) for call in live.log()], [tuple] * 3)
        self.assertEqual([type(item) for item in live.log()[0][1]], [int, list, list])
        self.assertEqual(live.log()[1:], [("cut", 1, 6), ("turn",)])

    def test_the_log_keeps_zones_as_they_were_passed(self):
        """Also where the property puts them together."""
        live = LiveSystem(System(0, [(4, [1], [])]))
        live.add((2, [1], []))
        live.add((3, [1], []))
        self.assertEqual(live.present.zones, [(9, [1], [])])
        self.assertEqual(live.log(), [("add", (2, [1], [])), ("add", (3, [1], []))])
        live.undo()
        self.assertEqual(live.present.zones, [(6, [1], [])])

    def test_zones_of_the_present_system(self):
        live = LiveSystem(System(0, [(4, [1], [])]))
        live.present.zones[0][1].append(3)
        live.present.zones.append((1, [], []))
        self.assertEqual(live.present.zones, [(4, [1], [])])

    def test_a_present_system_stays_as_it_is(self):
        system = System(0, [(4, [1], [])])
        live = LiveSystem(system)
        live.add((2, [2], []))
        kept = live.present
        live.cut(0, 3)
        live.turn()
        self.assertEqual(system.zones, [(4, [1], [])])
        self.assertEqual(kept.zones, [(4, [1], []), (2, [2], [])])
        self.assertIsInstance(live.present, System)

    def test_two_live_systems_of_one_system(self):
        system = System(0, [(4, [1], [])])
        one, other = LiveSystem(system), LiveSystem(system)
        one.add((2, [2], []))
        self.assertEqual((other.log(), other.present.zones), ([], [(4, [1], [])]))
        with self.assertRaises(Nothing):
            other.undo()
        other.turn()
        one.undo()
        self.assertEqual((one.log(), other.log()), ([], [("turn",)]))

    def test_undo_leads_back_to_the_zones_as_they_were(self):
        """Turned twice a system is equal, but offsets that lead beyond are gone; taken back they are there."""
        live = LiveSystem(System(0, [(4, [1, 9], [])]))
        live.turn()
        live.turn()
        self.assertEqual(live.present.zones, [(3, [1], []), (1, [], [])])
        live.undo()
        live.undo()
        self.assertEqual(live.present.zones, [(4, [1, 9], [])])
        live.add((20, [], []))
        self.assertEqual(live.present.neighbours(0), [1, 9])


class Equal(unittest.TestCase):
    def test_by_the_system_alone(self):
        small = System(0, [(8, [1, 3], [])])
        live = LiveSystem(small)
        self.assertIs(live == LiveSystem(System(0, [(3, [1, 3], []), (5, [1, 3], [])])), True)
        self.assertIs(live == live, True)
        other = LiveSystem(System(0, [(4, [1, 3], [])]))
        self.assertIs(live == other, False)
        other.add((4, [1, 3, 16], []))
        self.assertIs(live == other, True)
        self.assertIs(other == live, True)
        self.assertIs(live != other, False)
        live.add((1, [], []))
        self.assertIs(live == other, False)
        live.undo()
        self.assertIs(live == other, True)
        self.assertIs(live == LiveSystem(System(1, [(8, [1, 3], [])])), False)

    def test_with_other_values(self):
        small = System(0, [(8, [1, 3], [])])
        live = LiveSystem(small)
        others = [None, True, 0, 17, "0; 8:1,3:", b"", (), [], {}, small, [live], (live,), object(), LiveSystem, [small]]
        for other in others:
            self.assertIs(live == other, False)
            self.assertIs(other == live, False)
            self.assertIs(live != other, True)


class Bounds(unittest.TestCase):
    def unchanged(self, live, call, *arguments):
        before = (live.present.zones, live.log(), live.entries())
        with self.assertRaises(InvalidZones) as caught:
            call(*arguments)
        self.assertIsNone(caught.exception.item)
        self.assertEqual((live.present.zones, live.log(), live.entries()), before)

    def test_forty_zones_are_taken(self):
        live = LiveSystem(System(0, zones_unlike(1)))
        for zone in zones_unlike(40)[1:]:
            live.add(zone)
        self.assertEqual(len(live.present.zones), 40)
        self.unchanged(live, live.add, (1, [3], []))
        self.unchanged(live, live.preview, ("add", (1, [3], [])))
        self.unchanged(live, live.preview, ("turn",), ("turn",), ("add", (1, [3], [])))
        self.unchanged(live, live.preview, ("cut", 0, 39), ("add", (1, [], [])), ("add", (1, [3], [])))

    def test_a_zone_that_is_put_together_counts_as_none_more(self):
        live = LiveSystem(system_of(0, zones_unlike(40)))
        self.assertIsNone(live.add((7, [2], [])))
        self.assertEqual([len(live.present.zones), live.present.zones[-1]], [40, (8, [2], [])])
        self.unchanged(live, live.add, (1, [1], []))
        self.unchanged(live, live.add, (1, [2, 3], []))
        live.cut(0, live.present.length - 8)
        live.add((1, [3], []))
        self.assertEqual(len(live.present.zones), 40)
        self.unchanged(live, live.add, (1, [2], []))
        live.undo()
        live.undo()
        live.undo()
        self.assertEqual(live.present.zones, zones_unlike(40))

    def test_zones_as_the_property_tells_them(self):
        """Forty zones that are alike are one; a cut may leave fewer."""
        live = LiveSystem(System(0, [(1, [1], [])]))
        for _ in range(60):
            live.add((1, [1], []))
        self.assertEqual(live.present.zones, [(61, [1], [])])
        live = LiveSystem(system_of(0, zones_unlike(40)))
        live.cut(1, 40)
        live.add((1, [5], []))
        self.unchanged(live, live.add, (1, [6], []))

    def test_systems_of_more_than_forty_zones(self):
        """They may be live, but nothing is put behind them until they are cut, though a zone is none more."""
        live = LiveSystem(system_of(0, zones_unlike(60)))
        self.assertEqual(len(live.present.zones), 60)
        self.unchanged(live, live.add, (1, [2], []))
        live.turn()
        live.undo()
        live.cut(10, 50)
        live.add((1, [2], []))
        self.assertEqual(len(live.present.zones), 40)

    def test_turned_to_more_than_forty(self):
        live = LiveSystem(system_of(0, [(20, [at % 2 + 1, at % 3 + 5, 9 + at % 5], []) for at in range(30)]))
        live.turn()
        self.assertGreater(len(live.present.zones), 40)
        self.unchanged(live, live.add, (1, [2], []))
        live.undo()
        live.add((1, [2], []))

    def test_the_number_of_unknowns(self):
        live = LiveSystem(System(2, [(MOST - 3, [1], [])]))
        self.unchanged(live, live.add, (4, [1], []))
        self.unchanged(live, live.add, (4, [2], [0, 1]))
        self.unchanged(live, live.add, (MOST, [2], []))
        self.assertIsNone(live.add((3, [2], [])))
        self.assertEqual((live.present.length, live.present.unknowns), (MOST, MOST + 2))
        self.unchanged(live, live.add, (1, [2], []))
        self.unchanged(live, live.preview, ("cut", 0, MOST), ("add", (1, [], [])))
        self.assertEqual(live.preview(("cut", 0, 4), ("add", (MOST - 4, [], []))), 4)

    def test_two_hundred_calls(self):
        live = LiveSystem(System(0, [(5, [1], [])]))
        for at in range(50):
            live.add((1, [at % 16 + 1], []))
            live.cut(0, 5)
            live.turn()
            live.turn()
        self.assertEqual(len(live.log()), 200)
        for _ in range(200):
            live.undo()
        self.assertEqual((live.log(), live.present.zones), ([], [(5, [1], [])]))
        with self.assertRaises(Nothing):
            live.undo()


class Great(unittest.TestCase):
    def test_as_the_systems_that_cut_joined_and_turned_return(self):
        random = Random(157)
        for pair in great_systems(158, 42):
            live = LiveSystem(pair.great)
            system = pair.great
            systems = [system]
            for _ in range(8):
                operation = self.operation(random, system)
                expected = self.made(system, operation)
                self.assertEqual(live.preview(operation), room(expected, 0, expected.unknowns))
                perform(live, operation)
                system = expected
                systems.append(system)
                self.assertTrue(live.present == system)
                self.assertEqual(live.present.zones, system.zones)
                self.assertEqual(live.entries(), room(system, 0, system.unknowns))
            while len(systems) > 1:
                systems.pop()
                live.undo()
                self.assertEqual(live.present.zones, systems[-1].zones)

    def operation(self, random, system):
        kinds = ["cut", "turn"] if system.borders == 0 else ["cut"]
        if system.length <= MOST - GREAT and len(system.zones) < 40:
            kinds += ["add", "add"]
        kind = random.choice(kinds)
        if kind == "add":
            return ("add", some_zone(random, system.borders, random.choice([1, 7, GREAT // 3])))
        if kind == "cut":
            begin = random.randrange(system.length // 5 + 1)
            return ("cut", begin, random.randint(system.length - system.length // 5, system.length))
        return ("turn",)

    def made(self, system, operation):
        word, *items = operation
        if word == "add":
            return system.joined(System(system.borders, items))
        return system.cut(*items) if word == "cut" else system.turned()

    def test_counted_by_hand(self):
        live = LiveSystem(System(1, [(GREAT, [2], [0])]))
        self.assertEqual(live.entries(), 2 * GREAT - 2)
        live.add((GREAT, [], []))
        self.assertEqual(live.entries(), 2 * GREAT + 2)
        self.assertEqual(live.preview(("cut", GREAT, 2 * GREAT)), 0)
        live.cut(10, GREAT + 10)
        self.assertEqual(live.present.zones, [(GREAT - 10, [2], [0]), (10, [], [])])
        self.assertEqual(live.entries(), 2 * (GREAT - 10) + 2)

    def test_forty_zones_one_behind_the_other(self):
        random = Random(159)
        for borders in (0, 6):
            live = LiveSystem(System(borders, some_zones(random, borders, 1, 9)))
            while len(live.present.zones) < 40:
                live.add(some_zone(random, borders, 2 * 10 ** 28 + random.randint(0, 99)))
            length = live.present.length
            self.assertGreater(length, 10 ** 29)
            operations = [("cut", at, length - 9 * at) for at in range(6)] + [("cut", 1, 10 ** 28)]
            if borders == 0:
                operations = [operations[0], ("turn",), operations[1], ("turn",)]
            entries = live.preview(*operations)
            for operation in operations:
                perform(live, operation)
            self.assertEqual(live.entries(), entries)
            for _ in operations:
                live.undo()
            self.assertEqual(live.present.length, length)


if __name__ == "__main__":
    unittest.main()
