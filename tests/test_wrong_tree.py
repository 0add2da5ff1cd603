"""Each error of counts, tree, levels and reaches, for every parameter, and that calls change nothing."""

import copy
import unittest
from itertools import product

from fillbands.columns import column
from fillbands.counts import fill, first_wide, room, widest, work
from fillbands.errors import InvalidNumber, InvalidPlaces, InvalidSpan, InvalidSystem, InvalidUnknown
from fillbands.levels import at_level, first_at, level, steps
from fillbands.reaches import is_reached, nth_reached, reached, reached_room
from fillbands.systems import System
from fillbands.tree import ancestor, depth, descendants, meeting, parent, roots
from tests.test_wrong import NO_INTEGERS, NO_SYSTEMS, SMALL, WrongCase

SPANS = (room, fill, work, widest)
NUMBERS = (first_wide, at_level, first_at)
UNKNOWNS = (parent, depth, descendants, level)
PLACES = (reached, reached_room)
WRONG_UNKNOWNS = NO_INTEGERS + [-1, -11, 11, 12, 10 ** 30, 10 ** 99, -(10 ** 99), 10 ** 999]
WRONG_COUNTS = NO_INTEGERS + [-1, -2, -(10 ** 30), -(10 ** 999)]
WRONG_PLACES = [None, True, False, 0, 1, "", "1", b"1", (), (1,), (1, 2), {}, {1: 1}, SMALL, object(), list, []]
WRONG_PLACES += [list(range(11)), [1] * 11, [None] * 11, [0] * 400]


class WrongSystemsOfAll(WrongCase):
    def test_no_system(self):
        for value in NO_SYSTEMS:
            for call in (roots, steps):
                self.check(InvalidSystem, call, value)
            for call in SPANS:
                for begin, end in ((0, 1), (None, 1), (5, 4)):
                    self.check(InvalidSystem, call, value, begin, end)
            for call in UNKNOWNS + NUMBERS:
                for other in (0, None, -1):
                    self.check(InvalidSystem, call, value, other)
            for call in (ancestor, meeting):
                for one, other in ((0, 0), (None, 0), (0, -1), (-1, "1")):
                    self.check(InvalidSystem, call, value, one, other)
            for call in PLACES:
                for places in ([0], [], None, [None]):
                    self.check(InvalidSystem, call, value, places)
            for call in (is_reached, nth_reached):
                for places, other in (([0], 0), ([], 0), ([0], None), (None, None)):
                    self.check(InvalidSystem, call, value, places, other)


class WrongSpansOfCounts(WrongCase):
    def test_begin(self):
        for call in SPANS:
            for value in WRONG_UNKNOWNS:
                for end in (11, None, 0, 12):
                    self.check(InvalidSpan, call, SMALL, value, end)

    def test_end(self):
        for call in SPANS:
            for value in NO_INTEGERS + [-1, 12, 13, 10 ** 30, 10 ** 99, -(10 ** 99), 10 ** 999]:
                self.check(InvalidSpan, call, SMALL, 0, value)
                self.check(InvalidSpan, call, SMALL, 10, value)
            for begin in range(11):
                self.check(InvalidSpan, call, SMALL, begin, begin)
                self.check(InvalidSpan, call, SMALL, begin, begin - 1)

    def test_the_bounds_are_taken(self):
        for call in SPANS:
            for begin in range(11):
                for end in (begin + 1, 11):
                    self.assertIsNotNone(call(SMALL, begin, end))
        system = System(6, [(10 ** 30, [1], [])])
        for call in SPANS:
            for begin, end in ((0, 10 ** 30 + 6), (10 ** 30 + 5, 10 ** 30 + 6), (0, 1), (10 ** 30 - 1, 10 ** 30)):
                self.assertIsNotNone(call(system, begin, end))
            self.check(InvalidSpan, call, system, 0, 10 ** 30 + 7)
            self.check(InvalidSpan, call, system, 10 ** 30 + 6, 10 ** 30 + 7)


class WrongUnknownsOfTheTree(WrongCase):
    def test_one_unknown(self):
        for call in UNKNOWNS:
            for value in WRONG_UNKNOWNS:
                self.check(InvalidUnknown, call, SMALL, value)
            for unknown in range(11):
                call(SMALL, unknown)

    def test_two_unknowns(self):
        for value in WRONG_UNKNOWNS:
            self.check(InvalidUnknown, meeting, SMALL, value, 0)
            self.check(InvalidUnknown, meeting, SMALL, 0, value)
            self.check(InvalidUnknown, meeting, SMALL, value, value)
        self.assertEqual(meeting(SMALL, 10, 0), 10)

    def test_an_unknown_with_steps_or_places(self):
        for value in WRONG_UNKNOWNS:
            for count in (0, 10 ** 999, None, -1):
                self.check(InvalidUnknown, ancestor, SMALL, value, count)
            self.check(InvalidUnknown, is_reached, SMALL, [0, 3], value)
        self.assertIs(is_reached(SMALL, [10], 10), True)
        self.assertIs(is_reached(SMALL, [10], 0), False)

    def test_great(self):
        system = System(2, [(10 ** 30, [7], [1])])
        last = 10 ** 30 + 1
        for call in UNKNOWNS:
            call(system, last)
            self.check(InvalidUnknown, call, system, last + 1)
        self.assertEqual(meeting(system, last, 0), last)
        self.check(InvalidUnknown, meeting, system, 0, last + 1)
        self.assertEqual(reached(system, [last]), 1)
        self.check(InvalidPlaces, reached, system, [0, last + 1], field="item", value=1)


class WrongNumbers(WrongCase):
    def test_any_integer(self):
        for call in NUMBERS:
            for value in NO_INTEGERS:
                self.check(InvalidNumber, call, SMALL, value)
            for value in (0, -1, 1, 10 ** 30, -(10 ** 30), 10 ** 99, 10 ** 999, -(10 ** 999)):
                call(SMALL, value)

    def test_integers_from_0(self):
        for value in WRONG_COUNTS:
            for unknown in (0, 10):
                self.check(InvalidNumber, ancestor, SMALL, unknown, value)
            for places in ([0], [10, 3, 3]):
                self.check(InvalidNumber, nth_reached, SMALL, places, value)
        for value in (0, 1, 11, 10 ** 30, 10 ** 999):
            self.assertEqual(ancestor(SMALL, 10, value), 10 if value == 0 else None)
            self.assertEqual(nth_reached(SMALL, [10], value), 10 if value == 0 else None)


class WrongPlaces(WrongCase):
    def calls(self):
        """All calls with places, as functions of these; some with another wrong argument behind."""
        others = [(is_reached, 0), (is_reached, None), (is_reached, 11), (nth_reached, 0), (nth_reached, -1)]
        with_others = [lambda places, call=call, other=other: call(SMALL, places, other) for call, other in others]
        return [lambda places, call=call: call(SMALL, places) for call in PLACES] + with_others

    def test_no_list_of_places(self):
        for call, value in product(self.calls(), WRONG_PLACES):
            self.check(InvalidPlaces, call, value, field="item", value=None)

    def test_items_that_are_no_unknown(self):
        for call, value in product(self.calls(), WRONG_UNKNOWNS):
            for item in (0, 1, 4, 9):
                self.check(InvalidPlaces, call, [3] * item + [value], field="item", value=item)
            self.check(InvalidPlaces, call, [value, None, 3], field="item", value=0)
            self.check(InvalidPlaces, call, [3, 10, value, 0, -1], field="item", value=2)

    def test_one_to_ten_places_are_taken(self):
        for many in range(1, 11):
            self.assertEqual(reached(SMALL, [10] * many), 1)
            self.assertEqual(reached_room(SMALL, [9] * many), len(column(SMALL, 9)))
            self.assertIs(is_reached(SMALL, list(range(many)), many - 1), True)
            self.assertEqual(nth_reached(SMALL, list(range(many)), many - 1), many - 1)


class Unchanged(unittest.TestCase):
    def test_no_call_changes_what_it_was_passed(self):
        zones = [(4, [1, 3], [0]), (10 ** 29, [2, 16], []), (3, [], [0, 1])]
        passed = copy.deepcopy(zones)
        system = System(2, zones)
        places = [5, 0, 10 ** 29, 0, 10 ** 28, 3]
        kept = list(places)
        answers = []
        for _ in range(2):
            found = [call(system, 2, 10 ** 29) for call in SPANS]
            found += [call(system, 2) for call in NUMBERS + UNKNOWNS]
            found += [ancestor(system, 1, 10 ** 20), meeting(system, 1, 10 ** 9), roots(system), steps(system)]
            found += [call(system, places) for call in PLACES]
            found += [is_reached(system, places, 10 ** 21), nth_reached(system, places, 10 ** 21)]
            found += [column(system, 10 ** 9), system.neighbours(10 ** 9)]
            answers.append(found)
            self.assertEqual((zones, places), (passed, kept))
            self.assertEqual(system.zones, passed)
            self.assertEqual((system.borders, system.length, system.unknowns), (2, 10 ** 29 + 7, 10 ** 29 + 9))
            self.assertTrue(system == System(2, zones))
        self.assertEqual(answers[0], answers[1])

    def test_equal_systems_give_equal_answers(self):
        one = System(1, [(30, [2, 3], [0]), (10 ** 29, [4, 12], [])])
        parts = [(11, [2, 3], [0]), (19, [2, 3], [0]), (10 ** 29 - 1, [4, 12], []), (1, [4, 9, 16], [])]
        other = System(1, parts)
        self.assertTrue(one == other)
        total = one.unknowns
        for call in SPANS:
            self.assertEqual(call(one, 5, total - 2), call(other, 5, total - 2))
        for call in NUMBERS:
            self.assertEqual(call(one, 10 ** 27), call(other, 10 ** 27))
        for unknown in (0, 29, 30, 10 ** 28, total - 2, total - 1):
            for call in UNKNOWNS:
                self.assertEqual(call(one, unknown), call(other, unknown))
            for call in PLACES:
                self.assertEqual(call(one, [unknown, 3]), call(other, [unknown, 3]))

    def test_a_call_that_raises_changes_nothing(self):
        system = System(1, [(30, [2, 3], [0]), (10 ** 29, [4, 12], [])])
        before = [steps(system), reached(system, [3, 7]), room(system, 0, system.unknowns), level(system, 10 ** 20)]
        places = [3, 7, None]
        for call, arguments in ((reached, (places,)), (room, (3, 3)), (ancestor, (3, -1)), (first_at, (None,))):
            with self.assertRaises(ValueError):
                call(system, *arguments)
        self.assertEqual(places, [3, 7, None])
        after = [steps(system), reached(system, [3, 7]), room(system, 0, system.unknowns), level(system, 10 ** 20)]
        self.assertEqual(before, after)


if __name__ == "__main__":
    unittest.main()
