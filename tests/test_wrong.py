"""Each error of the sections that are there, for every parameter, and that calls change nothing."""

import copy
import unittest

from fillbands import errors
from fillbands.columns import column, filled, first_coupled, row
from fillbands.errors import (
    Bordered,
    InvalidBorders,
    InvalidSpan,
    InvalidSystem,
    InvalidUnknown,
    InvalidZones,
    NotCoupled,
    TooLarge,
    UnlikeSystems,
)
from fillbands.systems import System

SMALL = System(2, [(4, [1, 3], [1]), (5, [2], [0])])
NO_INTEGERS = [None, True, False, "", "1", b"1", (), (1,), [], [1], {}, {1: 1}, SMALL, object(), System, len]
NO_SYSTEMS = [None, True, False, 0, 3, "0; 3:1:", b"", (), [], (0, [(3, [], [])]), [(3, [], [])], {}, System, object()]
FREE = [(1, [], [])]
WRONG_ZONES = [
    None,
    True,
    1,
    "1:1:",
    b"1",
    [],
    [1, [], []],
    (),
    (1,),
    (1, []),
    (1, [], [], []),
    ((1, [], []),),
    {},
    SMALL,
    *[(value, [], []) for value in NO_INTEGERS + [0, -1, -(10 ** 40), 10 ** 30 + 1, 10 ** 99]],
    *[(1, value, []) for value in (None, True, 1, "", "1", b"", (), (1,), {}, {1: 1}, SMALL)],
    *[(1, [], value) for value in (None, True, 1, "", "1", b"", (), (1,), {}, {1: 1}, SMALL)],
    *[(1, [value], []) for value in NO_INTEGERS + [0, -1, 17, 10 ** 99, -(10 ** 99)]],
    *[(1, [], [value]) for value in NO_INTEGERS + [-1, 2, 3, 6, 10 ** 99, -(10 ** 99)]],
    (1, [2, 1], []),
    (1, [1, 1], []),
    (1, [1, 3, 3], []),
    (1, [1, 2, 3, 5, 4], []),
    (1, [1, None], []),
    (1, [1, 17], []),
    (1, [0, 1], []),
    (1, [1, 2, 3, 4, 5, 6, 7], []),
    (1, list(range(1, 17)), []),
    (1, [], [1, 0]),
    (1, [], [0, 0]),
    (1, [], [0, 1, 1]),
    (1, [], [0, True]),
    (1, [], [0, 1, 2]),
    (1, [], [0, 0, 0, 0, 0, 0, 0]),
]


class WrongCase(unittest.TestCase):
    def check(self, kind, call, *arguments, field=None, value=None):
        """The call raises exactly this error, with this field, and changes none of its arguments."""
        before = repr(arguments)
        with self.assertRaises(ValueError) as caught:
            call(*arguments)
        error = caught.exception
        self.assertIs(type(error), kind, (call, arguments))
        for name, other in vars(errors).items():
            if isinstance(other, type):
                self.assertIs(isinstance(error, other), other in (kind, errors.FillError), name)
        if field is not None:
            self.assertEqual(getattr(error, field), value, (call, arguments))
        self.assertEqual(repr(arguments), before)

    def tearDown(self):
        self.assertEqual(SMALL.zones, [(4, [1, 3], [1]), (5, [2], [0])])
        self.assertEqual([column(SMALL, 0), row(SMALL, 10)], [[1, 3, 10], [0, 1, 2, 3, 4, 5, 6, 7, 8, 9]])


class WrongSystems(WrongCase):
    def test_borders(self):
        for value in NO_INTEGERS + [-1, 7, 8, 10 ** 99, -(10 ** 99)]:
            self.check(InvalidBorders, System, value, FREE)
            self.check(InvalidBorders, System, value, None)
            self.check(InvalidBorders, System, value, [None])

    def test_no_list_of_zones(self):
        for value in (None, True, False, 0, 1, "1", b"1", (), tuple(FREE), {}, {1: (1, [], [])}, SMALL, (1, [], []), []):
            self.check(InvalidZones, System, 0, value, field="item", value=None)
        self.check(InvalidZones, System, 0, FREE * 13, field="item", value=None)
        self.check(InvalidZones, System, 0, [None] * 13, field="item", value=None)
        self.check(InvalidZones, System, 0, FREE * 400, field="item", value=None)
        self.assertEqual(System(0, FREE * 12).length, 12)

    def test_items_that_are_no_zone(self):
        for zone in WRONG_ZONES:
            for item in (0, 1, 3, 11):
                self.check(InvalidZones, System, 2, FREE * item + [zone], field="item", value=item)
            self.check(InvalidZones, System, 2, [zone, None], field="item", value=0)
            self.check(InvalidZones, System, 2, FREE + [zone] + FREE + [(0, [], [])], field="item", value=1)

    def test_touches_depend_on_the_borders(self):
        for borders in range(7):
            for touch in range(8):
                if touch < borders:
                    self.assertEqual(System(borders, [(1, [], [touch])]).neighbours(0), [1 + touch])
                else:
                    self.check(InvalidZones, System, borders, [(1, [], [touch])], field="item", value=0)
        self.check(InvalidZones, System, 6, [(1, [], [0, 1, 2, 3, 4, 5, 6])], field="item", value=0)

    def test_too_many_unknowns(self):
        most = (10 ** 30, [], [])
        for zones in ([most] + FREE, FREE + [most], [most] * 12, [(10 ** 30 // 2, [1], [])] * 2 + FREE):
            self.check(InvalidZones, System, 0, zones, field="item", value=None)
        self.check(InvalidZones, System, 0, [most, most, None], field="item", value=2)
        self.check(InvalidZones, System, 0, [most, most, (10 ** 30 + 1, [], [])], field="item", value=2)


class WrongUnknowns(WrongCase):
    ONE = [SMALL.neighbours, lambda unknown: column(SMALL, unknown), lambda unknown: row(SMALL, unknown)]
    TWO = [
        SMALL.coupled,
        lambda one, other: filled(SMALL, one, other),
        lambda one, other: first_coupled(SMALL, one, other),
    ]
    WRONG = NO_INTEGERS + [-1, -11, 11, 12, 10 ** 30, 10 ** 99, -(10 ** 99)]

    def test_one_unknown(self):
        for call in self.ONE:
            for value in self.WRONG:
                self.check(InvalidUnknown, call, value)
            for unknown in range(11):
                self.assertIsInstance(call(unknown), list)

    def test_two_unknowns(self):
        for call in self.TWO:
            for value in self.WRONG:
                self.check(InvalidUnknown, call, value, 0)
                self.check(InvalidUnknown, call, 0, value)
                self.check(InvalidUnknown, call, value, value)
            for pair in ((0, 10), (10, 0), (9, 10)):
                call(*pair)

    def test_systems_without_border(self):
        system = System(0, [(10 ** 30, [16], [])])
        self.assertEqual(system.neighbours(10 ** 30 - 1), [10 ** 30 - 17])
        for value in (10 ** 30, 10 ** 30 + 1):
            self.check(InvalidUnknown, system.neighbours, value)
            self.check(InvalidUnknown, system.coupled, 0, value)
            for call in (column, row):
                self.check(InvalidUnknown, call, system, value)
            for call in (filled, first_coupled):
                self.check(InvalidUnknown, call, system, value, 0)
                self.check(InvalidUnknown, call, system, 0, value)

    def test_no_system(self):
        for value in NO_SYSTEMS:
            for call in (column, row):
                self.check(InvalidSystem, call, value, 0)
                self.check(InvalidSystem, call, value, None)
            for call in (filled, first_coupled):
                self.check(InvalidSystem, call, value, 0, 1)
                self.check(InvalidSystem, call, value, None, None)
                self.check(InvalidSystem, call, value, 0, 0)


class WrongSpans(WrongCase):
    def test_begin(self):
        for value in NO_INTEGERS + [-1, 9, 10, 11, 10 ** 99, -(10 ** 99)]:
            for end in (9, None, 0):
                self.check(InvalidSpan, SMALL.cut, value, end)

    def test_end(self):
        for value in NO_INTEGERS + [-1, 0, 10, 11, 10 ** 99, -(10 ** 99)]:
            self.check(InvalidSpan, SMALL.cut, 0, value)
            self.check(InvalidSpan, SMALL.cut, 8, value)
        for begin in range(9):
            self.check(InvalidSpan, SMALL.cut, begin, begin)
            self.check(InvalidSpan, SMALL.cut, begin + 1, begin)
            self.assertEqual(SMALL.cut(begin, begin + 1).length, 1)
            self.assertEqual(SMALL.cut(begin, 9).length, 9 - begin)

    def test_great(self):
        system = System(1, [(10 ** 30, [1], [])])
        self.check(InvalidSpan, system.cut, 0, 10 ** 30 + 1)
        self.check(InvalidSpan, system.cut, 10 ** 30, 10 ** 30 + 1)
        self.assertEqual(system.cut(10 ** 30 - 1, 10 ** 30).length, 1)


class WrongPartners(WrongCase):
    def test_joined_with_no_system(self):
        for value in NO_SYSTEMS:
            self.check(InvalidSystem, SMALL.joined, value)

    def test_joined_with_another_number_of_borders(self):
        for borders in (0, 1, 3, 6):
            self.check(UnlikeSystems, SMALL.joined, System(borders, FREE))
            self.check(UnlikeSystems, SMALL.joined, System(borders, [(10 ** 30, [], [])]))

    def test_joined_to_too_many_unknowns(self):
        most = System(2, [(10 ** 30, [], [])])
        for one, other in ((SMALL, most), (most, SMALL), (most, most), (most, System(2, FREE))):
            self.check(InvalidZones, one.joined, other, field="item", value=None)
        self.assertEqual(System(2, FREE).joined(System(2, [(10 ** 30 - 1, [], [])])).length, 10 ** 30)

    def test_turned_with_a_border(self):
        for borders in range(1, 7):
            self.check(Bordered, System(borders, FREE).turned)
        self.assertEqual(System(0, FREE).turned().zones, FREE)

    def test_never_coupled(self):
        self.check(NotCoupled, lambda: first_coupled(SMALL, 4, 4))
        self.check(NotCoupled, lambda: first_coupled(System(2, FREE), 0, 1))
        self.check(NotCoupled, lambda: first_coupled(System(2, FREE), 1, 2))
        self.check(NotCoupled, lambda: first_coupled(System(2, FREE), 2, 2))

    def test_too_large(self):
        system = System(2, [(1001, [], [0, 1])])
        for border in (1001, 1002):
            self.check(TooLarge, system.neighbours, border, field="limit", value=1000)
            self.check(TooLarge, lambda unknown: row(system, unknown), border, field="limit", value=1000)
        exact = System(2, [(1000, [], [0]), (7, [], [1])])
        self.assertEqual(exact.neighbours(1007), list(range(1000)))
        self.assertEqual(row(exact, 1007), list(range(1000)))
        self.assertEqual(row(exact, 1008), list(range(1000, 1007)))


class Unchanged(unittest.TestCase):
    def test_no_call_changes_what_it_was_passed(self):
        zones = [(4, [1, 3], []), (3, [2, 16], [])]
        passed = copy.deepcopy(zones)
        system = System(0, zones)
        second = System(0, [(2, [5], [])])
        for _ in range(2):
            system.zones, system.couplings(), system.neighbours(3), system.coupled(1, 2)
            system.cut(1, 5), system.joined(second), system.turned(), system == second
            column(system, 2), row(system, 5), filled(system, 1, 4), first_coupled(system, 2, 3)
            self.assertEqual(zones, passed)
            self.assertEqual(system.zones, passed)
            self.assertEqual((system.borders, system.length, system.unknowns), (0, 7, 7))
            self.assertEqual(second.zones, [(2, [5], [])])


if __name__ == "__main__":
    unittest.main()
