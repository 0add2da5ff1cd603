"""show_system and read_system."""

import unittest
from random import Random

from fillbands.errors import InvalidSystem, InvalidText
from fillbands.systems import System
from fillbands.texts import read_system, show_system
from tests.reference import EDGES, GREAT, great_systems, some_systems, some_zones
from tests.test_wrong import NO_SYSTEMS, SMALL, WrongCase

MOST = 10 ** 30
# Strings that are no number of a text, though some are near to one.
NO_NUMBERS = ["", " ", "a", "one", "-1", "-0", "+1", "00", "01", "007", "1 ", " 1", "1.0", "1e3", "0x1", "1_0", "1;"]
NO_NUMBERS += ["\n", "1\n", "\n1", "1" + "0" * 100, "9" * 101, "1" * 5000, "\u0661", "\u00b2", "1\u0661", "None", "True"]


def text_of(borders, zones):
    """The text of a system with these zones, put together sign by sign."""
    text = str(borders)
    for count, offsets, touches in zones:
        text += "; " + str(count) + ":"
        text += str(offsets)[1:-1].replace(" ", "") + ":" + str(touches)[1:-1].replace(" ", "")
    return text


class Texts(unittest.TestCase):
    def same(self, one, other):
        """Whether two systems are equal, and told by the same zones."""
        self.assertTrue(one == other)
        self.assertEqual((one.borders, one.zones), (other.borders, other.zones))

    def test_a_text_is_read_as_the_system_with_these_zones(self):
        random = Random(141)
        systems = EDGES + some_systems(142, 280, 40) + some_systems(143, 28, 300)
        systems += [(at % 7, some_zones(random, at % 7, random.randint(5, 12), 10 ** 29)) for at in range(42)]
        for borders, zones in systems:
            system = System(borders, zones)
            self.same(read_system(text_of(borders, zones)), system)
            self.assertEqual(show_system(system), text_of(borders, system.zones))
            self.same(read_system(show_system(system)), system)

    def test_great_systems(self):
        for pair in great_systems(144, 28):
            self.same(read_system(show_system(pair.great)), pair.great)
            self.assertEqual(show_system(pair.great), text_of(pair.great.borders, pair.great.zones))

    def test_what_was_returned_is_shown_and_read(self):
        random = Random(145)
        read = 0
        for at in range(60):
            borders = at % 4 if at % 2 else 0
            system = System(borders, some_zones(random, borders, random.randint(1, 4), 30))
            found = [system.cut(0, random.randint(1, system.length)), system.joined(system)]
            if borders == 0:
                found.extend([system.turned(), system.turned().turned(), system.joined(system.turned())])
            for one in found:
                text = show_system(one)
                self.assertEqual(text, text_of(borders, one.zones))
                if len(one.zones) <= 12 and all(len(zone[1]) <= 6 for zone in one.zones):
                    self.same(read_system(text), one)
                    read += 1
                else:
                    with self.assertRaises(InvalidText) as caught:
                        read_system(text)
                    self.assertEqual(caught.exception.part, 1 + len(one.zones))
        self.assertGreater(read, 60)

    def test_texts_by_hand(self):
        for text, borders, zones in (
            ("0; 1::", 0, [(1, [], [])]),
            ("6; 1::0,1,2,3,4,5", 6, [(1, [], [0, 1, 2, 3, 4, 5])]),
            ("2; 3:1,16:1; 4:5:", 2, [(3, [1, 16], [1]), (4, [5], [])]),
            (f"1; {MOST}:1,2,3,4,5,6:0", 1, [(MOST, [1, 2, 3, 4, 5, 6], [0])]),
        ):
            self.assertEqual(show_system(System(borders, zones)), text)
            self.same(read_system(text), System(borders, zones))

    def test_zones_that_are_alike_are_shown_as_one(self):
        self.assertEqual(show_system(System(0, [(2, [3], []), (5, [3], []), (1, [4], [])])), "0; 7:3:; 1:4:")
        system = read_system("0; 2:3:; 5:3:; 1:4:")
        self.assertEqual(system.zones, [(7, [3], []), (1, [4], [])])
        self.assertEqual(show_system(read_system("; ".join(["1"] + ["1::0"] * 12))), "1; 12::0")

    def test_offsets_that_lead_beyond_are_kept(self):
        self.assertEqual(show_system(read_system("0; 1:16:")), "0; 1:16:")
        self.assertEqual(show_system(read_system("0; 9:1:").cut(0, 1)), "0; 1:1:")

    def test_equal_texts_are_read_as_equal_systems_apart(self):
        one, two = read_system("0; 8:1,3:"), read_system("0; 8:1,3:")
        self.assertTrue(one == two == System(0, [(8, [1, 3], [])]))
        one.zones.append(3)
        one.zones[0][1].append(16)
        self.same(one, two)


class WrongTexts(WrongCase):
    def wrong(self, part, text):
        self.check(InvalidText, read_system, text, field="part", value=part)

    def test_no_string(self):
        for value in [*NO_SYSTEMS, SMALL, b"0; 1::", ["0; 1::"], ("0", "1::"), 0, object(), str]:
            if not isinstance(value, str):
                self.wrong(None, value)

    def test_the_first_part(self):
        for part in NO_NUMBERS + ["0:", "0::", "1::", ":", ",", "0,1", "0;1::"]:
            self.wrong(0, part)
            self.wrong(0, part + "; 1::")
            self.wrong(0, part + "; nothing")
            self.wrong(0, part + "; 0:0:0; 1::")

    def test_parts_that_are_no_zone(self):
        parts = NO_NUMBERS + ["1", "1:", "1:::", "::::", ":", "::", ",::", ";", "1;:", "1: :", "1 ::", " 1::", "1:: "]
        parts += [f"{wrong}::" for wrong in NO_NUMBERS + ["1,2"]]
        lists = [wrong for wrong in NO_NUMBERS if wrong] + [",", ",1", "1,", "1,,2", "1, 2", "1 ,2", "1,-2", "1,02"]
        lists += ["1,2," + "9" * 101, "[1]", "1;2", "1.2"]
        parts += [f"1:{wrong}:" for wrong in lists] + [f"1::{wrong}" for wrong in lists]
        for part in parts:
            self.wrong(1, "2; " + part)
            self.wrong(1, "2; " + part + "; 1::")
            self.wrong(2, "2; 1:1:; " + part)
            self.wrong(2, "2; 1:1:; " + part + "; none; ")
            self.wrong(12, "2; " + "1:1:; " * 11 + part)
            self.wrong(13, "2; " + "1:1:; " * 12 + part)

    def test_the_first_of_several(self):
        self.wrong(0, "; ")
        self.wrong(0, "; 1::")
        self.wrong(0, "x; y; z")
        self.wrong(1, "9; y; z")
        self.wrong(2, "9; 0:0,0:9; z; y")
        self.wrong(1, "0; ")
        self.wrong(1, "0; ; ")
        self.wrong(2, "0; 1::; ")
        self.wrong(1, "0;  1::")
        self.wrong(1, "0; 1::;2::")
        self.wrong(2, "0; 1::;  ")
        self.wrong(0, "0 ; 1::")
        self.wrong(0, " 0; 1::")
        self.wrong(1, "0; 1::\n")
        self.wrong(1, "1; 6:2:0:1")
        self.wrong(2, "1; 6:2:0; 4:1")

    def test_numbers_of_100_and_of_101_digits(self):
        for digits in ("1" + "0" * 99, "9" * 100):
            self.wrong(2, f"{digits}; 1::")
            for zone in (f"{digits}::", f"1:{digits}:", f"1::{digits}", f"1:1,{digits}:"):
                self.wrong(2, f"1; {zone}")
                self.wrong(3, f"1; {zone}; 1::")
        for digits in ("1" + "0" * 100, "9" * 101, "0" * 101):
            self.wrong(0, f"{digits}; 1::")
            for zone in (f"{digits}::", f"1:{digits}:", f"1::{digits}", f"1:1,{digits}:"):
                self.wrong(1, f"1; {zone}")

    def test_there_is_no_such_system(self):
        self.wrong(1, "0")
        self.wrong(1, "6")
        self.wrong(1, "7")
        self.wrong(14, "0; " + "; ".join(["1::"] * 13))
        self.wrong(14, "0; " + "; ".join(f"1:{at % 2 + 1}:" for at in range(13)))
        self.wrong(41, "0; " + "; ".join(["1::"] * 40))
        for borders in (7, 8, 10, 10 ** 30):
            self.wrong(2, f"{borders}; 1::")
            self.wrong(3, f"{borders}; 1::; 1::0")
        for zone in (
            "0::",
            f"{MOST + 1}::",
            "1:0:",
            "1:17:",
            "1:1,17:",
            "1:0,1:",
            "1:2,1:",
            "1:1,1:",
            "1:1,3,2:",
            "1:1,2,3,4,5,6,7:",
            "1::2",
            "1::0,2",
            "1::1,0",
            "1::0,0",
            "1::0,1,2,3,4,5,6",
        ):
            self.wrong(2, f"2; {zone}")
            self.wrong(3, f"2; {zone}; 1::")
            self.wrong(4, f"2; 1::; 3:1:0; {zone}")
        self.wrong(2, "0; 1::0")
        self.wrong(2, "6; 1::6")

    def test_too_many_unknowns(self):
        self.wrong(3, f"0; {MOST}:1:; 1::")
        self.wrong(3, f"0; {MOST // 2}::; {MOST // 2 + 1}::")
        self.assertEqual(read_system(f"0; {MOST // 2}::; {MOST // 2}:1:").length, MOST)
        self.assertEqual(read_system(f"6; {MOST}::").unknowns, MOST + 6)
        self.wrong(14, "0; " + "; ".join([f"{MOST}::"] * 13))

    def test_the_bounds_are_taken(self):
        self.assertEqual(len(read_system("0; " + "; ".join(f"1:{at + 1}:" for at in range(12))).zones), 12)
        for borders in range(7):
            self.assertEqual(read_system(f"{borders}; 1:1,16:").borders, borders)
        self.assertEqual(read_system("0; 1:11,12,13,14,15,16:").zones, [(1, [11, 12, 13, 14, 15, 16], [])])

    def test_show_what_is_no_system(self):
        for value in NO_SYSTEMS:
            self.check(InvalidSystem, show_system, value)

    def test_no_call_changes_a_system(self):
        system = System(1, [(4, [1, 3], []), (GREAT, [2], [0])])
        self.assertEqual([show_system(system) for _ in range(2)], ["1; 4:1,3:; " + str(GREAT) + ":2:0"] * 2)
        self.assertEqual(system.zones, [(4, [1, 3], []), (GREAT, [2], [0])])


if __name__ == "__main__":
    unittest.main()
