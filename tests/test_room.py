"""RoomSystem: budget, OverRoom and ==."""

import copy
import unittest
from random import Random

from fillbands.counts import room
from fillbands.errors import (
    Bordered,
    InvalidBudget,
    InvalidOperation,
    InvalidSpan,
    InvalidSystem,
    InvalidZones,
    Nothing,
    OverRoom,
)
from fillbands.live import LiveSystem, RoomSystem
from fillbands.systems import System
from tests.kept import kept_of, perform, some_operation
from tests.reference import EDGES, GREAT, Definition, great_systems, some_systems
from tests.test_live import system_of, zones_unlike
from tests.test_wrong import FREE, NO_INTEGERS, NO_SYSTEMS, SMALL, WRONG_ZONES, WrongCase

WRONG_BUDGETS = NO_INTEGERS + [-1, -2, -(10 ** 30), -(10 ** 999)]


class RoomCase(WrongCase):
    def told(self, live):
        return (live.present.zones, live.present.borders, live.log(), live.entries(), live.budget)

    def refused(self, live, kind, call, *arguments, **fields):
        """The call raises this error, with this field, and the live system stays as it is."""
        before = self.told(live)
        name, value = next(iter(fields.items()), (None, None))
        self.check(kind, call, *arguments, field=name, value=value)
        self.assertEqual(self.told(live), before)


class Constructor(RoomCase):
    def test_no_system(self):
        for value in NO_SYSTEMS:
            for budget in (0, 10 ** 9, None, -1):
                self.check(InvalidSystem, RoomSystem, value, budget)
            self.check(InvalidSystem, RoomSystem, LiveSystem(SMALL), 10 ** 9)

    def test_no_budget(self):
        for value in WRONG_BUDGETS:
            self.check(InvalidBudget, RoomSystem, SMALL, value)
            self.check(InvalidBudget, RoomSystem, System(0, FREE), value)

    def test_just_below_at_and_above_the_room(self):
        for borders, zones in EDGES + some_systems(161, 84, 30):
            system = System(borders, zones)
            entries = sum(Definition(borders, zones).sizes)
            for budget in (0, entries // 2, entries - 1):
                if 0 <= budget < entries:
                    self.check(OverRoom, RoomSystem, system, budget, field="count", value=entries)
            for budget in (entries, entries + 1, 10 ** 99, 10 ** 999):
                live = RoomSystem(system, budget)
                self.assertEqual((live.budget, live.entries(), live.log()), (budget, entries, []))
                self.assertEqual(live.present.zones, system.zones)

    def test_great(self):
        for pair in great_systems(162, 28):
            entries = room(pair.great, 0, pair.great.unknowns)
            self.assertEqual(RoomSystem(pair.great, entries).entries(), entries)
            if entries:
                self.check(OverRoom, RoomSystem, pair.great, entries - 1, field="count", value=entries)
                self.check(OverRoom, RoomSystem, pair.great, 0, field="count", value=entries)

    def test_a_budget_of_nothing(self):
        live = RoomSystem(System(2, [(GREAT, [], [])]), 0)
        self.assertEqual((live.budget, live.entries()), (0, 0))
        live.add((GREAT, [], []))
        self.refused(live, OverRoom, live.add, (1, [], [0]), count=1)
        live.cut(5, 10)
        self.assertEqual(live.entries(), 0)

    def test_it_is_a_live_system(self):
        live = RoomSystem(SMALL, 10 ** 9)
        self.assertIsInstance(live, LiveSystem)
        self.assertIn("budget", vars(RoomSystem))
        self.assertEqual(live.budget, 10 ** 9)


class Calls(RoomCase):
    def test_drawn_calls(self):
        random = Random(163)
        taken = refused = 0
        for borders, zones in EDGES[:8] + some_systems(164, 84, 20):
            entries = sum(Definition(borders, zones).sizes)
            live = RoomSystem(System(borders, zones), entries + random.choice([0, 1, 5, 30]))
            states = [kept_of(live.present)]
            for _ in range(16):
                operation = some_operation(random, states[-1], 30)
                kept = states[-1].after(operation)
                if kept.entries() > live.budget:
                    self.refused(live, OverRoom, perform, live, operation, count=kept.entries())
                    self.refused(live, OverRoom, live.preview, operation, count=kept.entries())
                    refused += 1
                    if len(states) > 1 and random.random() < 0.5:
                        live.undo()
                        states.pop()
                else:
                    self.assertEqual(live.preview(operation), kept.entries())
                    self.assertIsNone(perform(live, operation))
                    states.append(kept)
                    taken += 1
                self.assertEqual(live.present.zones, states[-1].zones())
                self.assertEqual(len(live.log()), len(states) - 1)
        self.assertGreater(min(taken, refused), 200)

    def test_previews_of_several_steps(self):
        """The first step that goes over the budget tells its room, whatever the steps behind it are."""
        random = Random(165)
        over = 0
        for borders, zones in EDGES[:8] + some_systems(166, 84, 20):
            kept = kept_of(System(borders, zones))
            operations, rooms = [], []
            for _ in range(random.randint(1, 12)):
                operations.append(some_operation(random, kept, 30))
                kept = kept.after(operations[-1])
                rooms.append(kept.entries())
            entries = sum(Definition(borders, zones).sizes)
            for budget in {entries, max(rooms), max(rooms) - 1, (entries + max(rooms)) // 2}:
                if budget < entries:
                    continue
                live = RoomSystem(System(borders, zones), budget)
                first = next((found for found in rooms if found > budget), None)
                if first is None:
                    self.assertEqual(live.preview(*operations), rooms[-1])
                else:
                    self.refused(live, OverRoom, live.preview, *operations, count=first)
                    over += 1
        self.assertGreater(over, 50)

    def test_just_below_at_and_above(self):
        system = System(0, [(8, [1, 3], [])])
        zone = (2, [1], [])
        for budget in (23, 24, 10 ** 99):
            live = RoomSystem(system, budget)
            self.assertEqual(live.preview(("add", zone)), 23)
            live.add(zone)
            self.assertEqual(live.entries(), 23)
        for budget in (17, 22):
            live = RoomSystem(system, budget)
            self.refused(live, OverRoom, live.add, zone, count=23)
            self.refused(live, OverRoom, live.preview, ("add", zone), count=23)

    def test_a_turn_over_the_budget(self):
        system = System(0, [(3, [1, 5], []), (9, [], []), (3, [2, 7], [])])
        one, other = room(system, 0, 15), room(system.turned(), 0, 15)
        self.assertNotEqual(one, other)
        low, high = (system, system.turned()) if one < other else (system.turned(), system)
        live = RoomSystem(low, max(one, other) - 1)
        self.refused(live, OverRoom, live.turn, count=max(one, other))
        self.refused(live, OverRoom, live.preview, ("turn",), ("turn",), count=max(one, other))
        self.assertTrue(high == low.turned())
        live = RoomSystem(high, max(one, other))
        self.assertEqual(live.preview(("turn",), ("turn",)), max(one, other))
        live.turn()
        live.turn()
        self.assertEqual(live.log(), [("turn",), ("turn",)])

    def test_great(self):
        live = RoomSystem(System(1, [(GREAT, [2], [0])]), 3 * GREAT)
        live.add((GREAT, [], []))
        self.refused(live, OverRoom, live.add, (GREAT, [], [0]), count=3 * GREAT + 2)
        self.refused(live, OverRoom, live.preview, ("add", (GREAT, [], [0])), ("cut", 0, 1), count=3 * GREAT + 2)
        live.add((GREAT - 2, [], [0]))
        self.assertEqual(live.entries(), 3 * GREAT)
        self.refused(live, OverRoom, live.add, (1, [], [0]), count=3 * GREAT + 1)
        live.cut(1, 2 * GREAT)
        self.assertEqual(live.entries(), 2 * GREAT)
        self.assertEqual(len(live.log()), 3)

    def test_undo_is_never_refused(self):
        live = RoomSystem(System(0, [(8, [1, 3], [])]), 23)
        live.add((2, [1], []))
        live.cut(0, 3)
        live.cut(0, 1)
        for expected in (2, 23, 17):
            self.assertIsNone(live.undo())
            self.assertEqual(live.entries(), expected)
        self.refused(live, Nothing, live.undo)

    def test_the_errors_of_a_live_system_come_first(self):
        live = RoomSystem(SMALL, room(SMALL, 0, SMALL.unknowns))
        for zone in WRONG_ZONES:
            self.refused(live, InvalidZones, live.add, zone, item=0)
        self.refused(live, InvalidZones, live.add, (10 ** 30, [1, 2, 3], [0, 1]), item=None)
        self.refused(live, InvalidSpan, live.cut, 0, 10)
        self.refused(live, InvalidSpan, live.cut, None, 10)
        self.refused(live, Bordered, live.turn)
        self.refused(live, Nothing, live.undo)
        full = system_of(0, zones_unlike(40))
        live = RoomSystem(full, room(full, 0, full.unknowns))
        self.refused(live, InvalidZones, live.add, (1000, [1, 2, 3], []), item=None)
        found = kept_of(full).after(("add", (3, [2], []))).entries()
        self.refused(live, OverRoom, live.add, (3, [2], []), count=found)

    def test_errors_of_a_preview_in_their_sequence(self):
        entries = room(SMALL, 0, SMALL.unknowns)
        live = RoomSystem(SMALL, entries)
        over = ("add", (1, [], [0]))
        found = kept_of(SMALL).after(over).entries()
        self.assertGreater(found, entries)
        for later in (("add", None), ("cut", 0, 0), ("turn",), ("add", (1, [], [1])), over):
            self.refused(live, OverRoom, live.preview, over, later, count=found)
            self.refused(live, OverRoom, live.preview, ("cut", 0, 9), over, later, count=found)
        self.refused(live, InvalidZones, live.preview, ("add", None), over, item=0)
        self.refused(live, InvalidSpan, live.preview, ("cut", 0, 0), over)
        self.refused(live, Bordered, live.preview, ("turn",), over)
        self.refused(live, InvalidOperation, live.preview, over, ("undo",))
        self.refused(live, InvalidOperation, live.preview, over, None)
        self.refused(live, InvalidOperation, live.preview, *[over] * 11, ["turn"])
        self.assertEqual(live.preview(), entries)
        self.assertEqual(live.preview(("cut", 0, 9)), entries)

    def test_a_step_over_the_budget_that_a_later_one_takes_back(self):
        live = RoomSystem(System(0, [(8, [1, 3], [])]), 17)
        self.refused(live, OverRoom, live.preview, ("add", (2, [1], [])), ("cut", 0, 8), count=23)
        self.assertEqual(live.preview(("cut", 0, 7), ("add", (1, [], []))), 17)


class Equal(unittest.TestCase):
    def test_two_of_them(self):
        one = RoomSystem(SMALL, 100)
        self.assertIs(one == RoomSystem(System(2, SMALL.zones), 100), True)
        self.assertIs(one == one, True)
        for budget in (99, 101, 10 ** 99):
            other = RoomSystem(SMALL, budget)
            self.assertIs(one == other, False)
            self.assertIs(other == one, False)
            self.assertIs(one != other, True)
        other = RoomSystem(System(2, FREE), 100)
        self.assertIs(one == other, False)

    def test_with_a_live_system_from_either_side(self):
        room_system, live = RoomSystem(SMALL, 100), LiveSystem(SMALL)
        self.assertIs(room_system == live, False)
        self.assertIs(live == room_system, False)
        self.assertIs(live != room_system, True)
        self.assertIs(room_system != live, True)

    def test_after_calls(self):
        one, other = RoomSystem(SMALL, 100), RoomSystem(SMALL, 100)
        one.add((1, [1], []))
        self.assertIs(one == other, False)
        other.add((1, [1], []))
        self.assertIs(one == other, True)
        one.undo()
        other.cut(0, 9)
        self.assertIs(one == other, True)

    def test_with_other_values(self):
        one = RoomSystem(SMALL, 100)
        for other in [None, True, 100, "", (), [], {}, SMALL, [one], object(), RoomSystem, (SMALL, 100)]:
            self.assertIs(one == other, False)
            self.assertIs(other == one, False)


class Unchanged(unittest.TestCase):
    def test_no_call_changes_what_it_was_passed(self):
        live = RoomSystem(SMALL, 10 ** 9)
        operations = [("add", (3, [2, 5], [0])), ("cut", 1, 9), ("add", (10 ** 9, [2], [0, 1]))]
        passed = copy.deepcopy(operations)
        for operation in operations[:2]:
            perform(live, operation)
        for call in (live.preview, lambda *told: live.add(told[2][1])):
            with self.assertRaises(OverRoom):
                call(*operations)
        self.assertEqual(operations, passed)
        self.assertEqual(live.log(), passed[:2])
        self.assertEqual(SMALL.zones, [(4, [1, 3], [1]), (5, [2], [0])])


if __name__ == "__main__":
    unittest.main()
