"""Each error of alike and of live systems, for every parameter, and that calls change nothing."""

import copy
import unittest

from fillbands.alike import first_needless, first_unlike, needless, needless_in
from fillbands.errors import (
    Bordered,
    InvalidOperation,
    InvalidSpan,
    InvalidSystem,
    InvalidUnknown,
    InvalidZones,
    NotCoupled,
    Nothing,
    UnlikeSystems,
)
from fillbands.live import LiveSystem
from fillbands.systems import System
from tests.test_wrong import FREE, NO_INTEGERS, NO_SYSTEMS, SMALL, WRONG_ZONES, WrongCase

FAR = 10 ** 30
WRONG_UNKNOWNS = NO_INTEGERS + [-1, -11, 11, 12, FAR, 10 ** 99, -(10 ** 99), 10 ** 999]
WRONG_BEGINS = NO_INTEGERS + [-1, 9, 10, 11, 10 ** 99, -(10 ** 99), 10 ** 999]
WRONG_ENDS = NO_INTEGERS + [-1, 0, 10, 11, 10 ** 99, -(10 ** 99), 10 ** 999]
NO_OPERATIONS = [
    None,
    True,
    0,
    "",
    "turn",
    "cut",
    b"turn",
    [],
    ["turn"],
    ["cut", 0, 3],
    ["add", (1, [], [])],
    {},
    {"turn": 0},
    SMALL,
    object(),
    LiveSystem,
    (),
    (None,),
    (True,),
    (0,),
    ("",),
    (b"turn",),
    ([],),
    (["turn"],),
    ({},),
    (("turn",),),
    (SMALL,),
    ("undo",),
    ("log",),
    ("preview",),
    ("entries",),
    ("present",),
    ("Turn",),
    ("turn ",),
    ("turned",),
    ("turn", None),
    ("turn", 0),
    ("turn", ()),
    ("cut",),
    ("cut", 0),
    ("cut", 0, 3, None),
    ("cut", (0, 3)),
    ("add",),
    ("add", 1, [], []),
    ("add", (1, [], []), (1, [], [])),
    ("add", (1, [], []), None),
    (1, [], []),
]


class Alike(WrongCase):
    def test_no_system(self):
        for value in NO_SYSTEMS + [LiveSystem(SMALL)]:
            self.check(InvalidSystem, first_needless, value)
            for second in (SMALL, value, None, System(0, FREE)):
                self.check(InvalidSystem, first_unlike, value, second)
            self.check(InvalidSystem, first_unlike, SMALL, value)
            for one, other in ((0, 1), (None, 0), (0, -1), (0, 0), (-1, "1")):
                self.check(InvalidSystem, needless, value, one, other)
            for begin, end in ((0, 1), (None, 1), (5, 4)):
                self.check(InvalidSystem, needless_in, value, begin, end)

    def test_unlike_systems(self):
        for other in (System(1, [(9, [1], [])]), System(3, [(9, [1], [])]), System(0, [(9, [1], [])])):
            self.check(UnlikeSystems, first_unlike, SMALL, other)
            self.check(UnlikeSystems, first_unlike, other, SMALL)
        for count in (1, 8, 10, FAR):
            self.check(UnlikeSystems, first_unlike, SMALL, System(2, [(count, [1], [])]))
            self.check(UnlikeSystems, first_unlike, System(2, [(count, [1], [])]), SMALL)
        # As many unknowns together, but not as many of them inner ones.
        self.check(UnlikeSystems, first_unlike, SMALL, System(1, [(10, [1], [])]))
        self.check(UnlikeSystems, first_unlike, System(3, [(8, [1], [])]), SMALL)
        great = System(0, [(FAR, [1], [])])
        self.check(UnlikeSystems, first_unlike, great, System(0, [(FAR - 1, [1], [])]))
        self.assertIsNone(first_unlike(great, System(0, [(FAR, [1], [])])))

    def test_unknowns(self):
        for value in WRONG_UNKNOWNS:
            for other in (0, 1, 10):
                self.check(InvalidUnknown, needless, SMALL, value, other)
                self.check(InvalidUnknown, needless, SMALL, other, value)
            self.check(InvalidUnknown, needless, SMALL, value, value)
        great = System(2, [(FAR, [1], [1])])
        self.assertIs(needless(great, FAR + 1, FAR - 1), True)
        self.assertIs(needless(great, 0, FAR + 1), False)
        self.check(InvalidUnknown, needless, great, 0, FAR + 2)
        self.check(NotCoupled, needless, great, 0, FAR)
        self.check(NotCoupled, needless, great, FAR, FAR + 1)

    def test_not_coupled(self):
        for unknown in range(11):
            self.check(NotCoupled, needless, SMALL, unknown, unknown)
        # 1 and 3 become coupled when 0 is eliminated, 0 and 2 never, the border ones at last.
        for one, other in ((1, 3), (0, 2), (9, 10), (0, 9), (8, 10), (3, 5)):
            self.check(NotCoupled, needless, SMALL, one, other)
            self.check(NotCoupled, needless, SMALL, other, one)

    def test_spans(self):
        for value in WRONG_UNKNOWNS:
            for end in (11, None, 0, 12):
                self.check(InvalidSpan, needless_in, SMALL, value, end)
        for value in NO_INTEGERS + [-1, 0, 12, FAR, 10 ** 99, -(10 ** 99), 10 ** 999]:
            self.check(InvalidSpan, needless_in, SMALL, 0, value)
            self.check(InvalidSpan, needless_in, SMALL, 10, value)
        for begin in range(11):
            self.check(InvalidSpan, needless_in, SMALL, begin, begin)
            for end in (begin + 1, 11):
                self.assertGreaterEqual(needless_in(SMALL, begin, end), 0)
        great = System(6, [(FAR, [1], [])])
        for begin, end in ((0, FAR + 6), (FAR + 5, FAR + 6), (0, 1)):
            self.assertEqual(needless_in(great, begin, end), 0)
        self.check(InvalidSpan, needless_in, great, 0, FAR + 7)
        self.check(InvalidSpan, needless_in, great, FAR + 6, FAR + 7)

    def test_no_call_changes_what_it_was_passed(self):
        zones = [(4, [1, 3], [0]), (10 ** 29, [2, 16], []), (3, [], [0, 1])]
        passed = copy.deepcopy(zones)
        system, second = System(2, zones), System(2, zones[::-1])
        answers = []
        for _ in range(2):
            found = [first_unlike(system, second), needless(system, 2, 3), needless_in(system, 1, 10 ** 29)]
            answers.append(found + [first_needless(system)])
            self.assertEqual((zones, system.zones, second.zones), (passed, passed, passed[::-1]))
        self.assertEqual(answers[0], answers[1])


class LiveCase(WrongCase):
    def setUp(self):
        self.live = LiveSystem(SMALL)
        self.live.add((1, [5], [0, 1]))
        self.live.cut(0, 9)

    def told(self):
        return (self.live.present.borders, self.live.present.zones, self.live.log(), self.live.entries())

    def refused(self, kind, call, *arguments, **fields):
        before = self.told()
        name, value = next(iter(fields.items()), (None, None))
        self.check(kind, call, *arguments, field=name, value=value)
        self.assertEqual(self.told(), before)

    def tearDown(self):
        self.live.undo()
        self.live.undo()
        self.assertEqual((self.live.log(), self.live.present.zones), ([], SMALL.zones))
        super().tearDown()


class Live(LiveCase):
    def test_no_system(self):
        for value in NO_SYSTEMS + [self.live]:
            self.check(InvalidSystem, LiveSystem, value)

    def test_add(self):
        for zone in WRONG_ZONES:
            self.refused(InvalidZones, self.live.add, zone, item=0)
        for zone in ([(1, [], [])], [1, [], []], System(2, FREE)):
            self.refused(InvalidZones, self.live.add, zone, item=0)
        self.refused(InvalidZones, self.live.add, (FAR, [], []), item=None)
        self.refused(InvalidZones, self.live.add, (FAR - 8, [2], [0]), item=None)
        self.live.add((FAR - 9, [2], [0]))
        self.refused(InvalidZones, self.live.add, (1, [], []), item=None)
        self.refused(InvalidZones, self.live.add, (FAR + 1, [], []), item=0)
        self.live.undo()

    def test_touches_depend_on_the_borders(self):
        for borders in range(7):
            live = LiveSystem(System(borders, FREE))
            for touch in range(8):
                if touch < borders:
                    self.assertIsNone(live.add((1, [], [touch])))
                    live.undo()
                else:
                    self.check(InvalidZones, live.add, (1, [], [touch]), field="item", value=0)

    def test_the_bounds_of_zones_are_taken(self):
        for zone in ((1, [], []), (1, [1, 16], [0, 1]), (FAR - 9, [11, 12, 13, 14, 15, 16], [])):
            self.assertIsNone(self.live.add(zone))
            self.assertIsNone(self.live.undo())

    def test_cut(self):
        for value in WRONG_BEGINS:
            for end in (9, None, 0):
                self.refused(InvalidSpan, self.live.cut, value, end)
        for value in WRONG_ENDS:
            self.refused(InvalidSpan, self.live.cut, 0, value)
            self.refused(InvalidSpan, self.live.cut, 8, value)
        for begin in range(9):
            self.refused(InvalidSpan, self.live.cut, begin, begin)
            for end in (begin + 1, 9):
                self.live.cut(begin, end)
                self.assertEqual(self.live.present.length, end - begin)
                self.live.undo()

    def test_turn(self):
        self.refused(Bordered, self.live.turn)
        for borders in range(1, 7):
            self.check(Bordered, LiveSystem(System(borders, FREE)).turn)
        live = LiveSystem(System(0, FREE))
        self.assertIsNone(live.turn())
        self.assertEqual(live.log(), [("turn",)])

    def test_undo(self):
        live = LiveSystem(SMALL)
        for _ in range(3):
            self.check(Nothing, live.undo)
            self.assertEqual((live.log(), live.present.zones), ([], SMALL.zones))
        live.cut(0, 3)
        live.undo()
        self.check(Nothing, live.undo)
        self.check(InvalidSpan, live.cut, 0, 0)
        self.check(Nothing, live.undo)


class Previews(LiveCase):
    FINE = [("cut", 0, 9), ("add", (1, [1], [1])), ("cut", 1, 8)]
    FAILING = [(("turn",), Bordered), (("cut", 3, 3), InvalidSpan), (("cut", 0, 10), InvalidSpan)]
    FAILING += [(("cut", None, 1), InvalidSpan), (("add", None), InvalidZones), (("add", (FAR, [], [])), InvalidZones)]

    def test_what_is_no_operation(self):
        for value in NO_OPERATIONS:
            self.refused(InvalidOperation, self.live.preview, value)
            self.refused(InvalidOperation, self.live.preview, *self.FINE, value)
            self.refused(InvalidOperation, self.live.preview, value, *self.FINE)
            self.refused(InvalidOperation, self.live.preview, *self.FINE * 3, value, None)
            self.refused(InvalidOperation, self.live.preview, [*self.FINE])

    def test_ahead_of_calls_that_would_raise(self):
        """All operations have a form, or none is performed."""
        for value in NO_OPERATIONS:
            for failing, _ in self.FAILING:
                self.refused(InvalidOperation, self.live.preview, failing, value)
                self.refused(InvalidOperation, self.live.preview, value, failing)
                self.refused(InvalidOperation, self.live.preview, *self.FINE, failing, *self.FINE, value)

    def test_the_first_call_that_raises(self):
        for failing, kind in self.FAILING:
            self.refused(kind, self.live.preview, failing)
            self.refused(kind, self.live.preview, ("cut", 0, 9), failing)
            self.refused(kind, self.live.preview, *[("cut", 0, 9)] * 11, failing)
            for other, _ in self.FAILING:
                self.refused(kind, self.live.preview, ("cut", 0, 9), failing, other)

    def test_the_fields(self):
        for zone in WRONG_ZONES:
            self.refused(InvalidZones, self.live.preview, ("add", zone), item=0)
            self.refused(InvalidZones, self.live.preview, ("cut", 0, 1), ("add", zone), ("turn",), item=0)
        self.refused(InvalidZones, self.live.preview, ("add", (FAR - 8, [], [])), item=None)
        self.assertEqual(self.live.preview(("cut", 0, 1), ("add", (FAR - 1, [], [])), ("cut", 0, 1)), 1)
        many = [("add", (1, [at % 2 + 1], [])) for at in range(12)]
        live = LiveSystem(System(0, FREE))
        for at in range(30):
            live.add((1, [at % 2 + 3], []))
        self.check(InvalidZones, live.preview, *many, field="item", value=None)
        self.check(InvalidZones, live.preview, *many[:10], field="item", value=None)
        self.assertGreater(live.preview(*many[:9]), 0)

    def test_spans_at_the_length_by_then(self):
        self.refused(InvalidSpan, self.live.preview, ("cut", 0, 5), ("cut", 0, 6))
        self.refused(InvalidSpan, self.live.preview, ("cut", 0, 5), ("cut", 5, 6))
        self.assertEqual(self.live.preview(("cut", 0, 5), ("add", (1, [], [])), ("cut", 5, 6)), 0)

    def test_borders_are_those_of_the_system(self):
        self.refused(InvalidZones, self.live.preview, ("add", (1, [], [2])), item=0)
        self.assertEqual(self.live.preview(("cut", 8, 9), ("add", (1, [], [0, 1])), ("cut", 1, 2)), 2 + 1)

    def test_more_than_twelve_raise_no_error_for_it(self):
        self.assertEqual(self.live.preview(*[("cut", 0, 9)] * 20), self.live.entries())


if __name__ == "__main__":
    unittest.main()
