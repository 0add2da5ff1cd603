"""Console: execute, each command, its answer and its errors."""

import unittest
from random import Random

from fillbands.alike import needless_in
from fillbands.columns import column, row
from fillbands.console import Console
from fillbands.counts import fill, room, work
from fillbands.errors import (
    Bordered,
    InvalidCommand,
    InvalidPlaces,
    InvalidSpan,
    InvalidText,
    InvalidUnknown,
    Nothing,
    TooLarge,
)
from fillbands.levels import level, steps
from fillbands.live import LiveSystem
from fillbands.reaches import reached
from fillbands.systems import System
from fillbands.texts import show_system
from fillbands.tree import depth, parent
from tests.reference import EDGES, GREAT, great_systems, some_systems
from tests.test_wrong import SMALL, WrongCase

OF_ONE = {"column": column, "row": row, "parent": parent, "level": level, "depth": depth}
OF_ALL = {"room": room, "fill": fill, "work": work, "needless": needless_in}
NUMBERS = {"cut": (2, 2), "turn": (0, 0), "undo": (0, 0), "show": (0, 0), "steps": (0, 0), "reached": (1, 10)}
NUMBERS.update({word: (1, 1) for word in OF_ONE})
NUMBERS.update({word: (0, 0) for word in OF_ALL})
# Words that are no numbers of commands, though some are near to one.
NO_NUMBERS = ["", "+1", "+0", "-0", "--1", "-", "01", "00", "-01", "-00", "1.0", "1e3", "0x1", "1_0", "a", "none"]
NO_NUMBERS += ["1,2", "1\t2", "\n", "1\n", "\n1", "\t", "1\r", "\u0661", "\u00b2", "-\u0661", "1\u00a0"]
NO_NUMBERS += ["1" + "0" * 100, "9" * 101, "-1" + "0" * 100, "-" + "9" * 101, "0" * 101, "7" * 5000]


def told(answer):
    """What a console makes of an answer."""
    if answer is None or answer == []:
        return "none"
    return " ".join(map(str, answer)) if isinstance(answer, list) else str(answer)


def started(system):
    console = Console()
    assert console.execute("system " + show_system(system)) == "ok"
    return console


class Answers(unittest.TestCase):
    def check_of_all(self, console, system):
        self.assertEqual(console.execute("show"), show_system(system))
        self.assertEqual(console.execute("steps"), str(steps(system)))
        for word, ask in OF_ALL.items():
            self.assertEqual(console.execute(word), str(ask(system, 0, system.unknowns)), (word, system.zones))

    def check_of_one(self, console, system, unknown):
        for word, ask in OF_ONE.items():
            if word != "row" or unknown < system.length:
                self.assertEqual(console.execute(f"{word} {unknown}"), told(ask(system, unknown)), (word, unknown))

    def test_small_systems(self):
        random = Random(171)
        for borders, zones in EDGES + some_systems(172, 112, 25):
            system = System(borders, zones)
            console = started(system)
            self.check_of_all(console, system)
            for unknown in range(system.unknowns):
                self.check_of_one(console, system, unknown)
                self.assertEqual(console.execute(f"row {unknown}"), told(row(system, unknown)))
            for many in range(1, 11):
                places = [random.randrange(system.unknowns) for _ in range(many)]
                command = " ".join(["reached", *map(str, places)])
                self.assertEqual(console.execute(command), str(reached(system, places)))

    def test_great_systems(self):
        random = Random(173)
        for pair in great_systems(174, 42):
            system = pair.great
            console = started(system)
            self.check_of_all(console, system)
            places = [random.choice(pair.places(random))[1] for _ in range(5)]
            for unknown in places:
                self.check_of_one(console, system, unknown)
            command = "reached " + " ".join(map(str, places))
            self.assertEqual(console.execute(command), str(reached(system, places)))

    def test_changes(self):
        random = Random(175)
        for borders, zones in EDGES + some_systems(176, 84, 25):
            live = LiveSystem(System(borders, zones))
            console = started(live.present)
            for _ in range(14):
                length = live.present.length
                kind = random.choice(["cut", "turn", "undo", "undo"] if borders == 0 else ["cut", "undo"])
                if kind == "cut" and length > 2:
                    begin = random.randrange(length // 3 + 1)
                    end = random.randint(length - length // 3, length)
                    live.cut(begin, end)
                    self.assertEqual(console.execute(f"cut {begin} {end}"), "ok")
                elif kind == "turn":
                    live.turn()
                    self.assertEqual(console.execute("turn"), "ok")
                elif live.log():
                    live.undo()
                    self.assertEqual(console.execute("undo"), "ok")
                else:
                    with self.assertRaises(Nothing):
                        console.execute("undo")
                self.check_of_all(console, live.present)

    def test_at_first(self):
        console = Console()
        self.check_of_all(console, System(0, [(1, [], [])]))
        self.assertEqual(console.execute("show"), "0; 1::")
        asked = ["column 0", "row 0", "parent 0", "level 0", "depth 0", "room", "fill", "work", "steps", "needless"]
        answers = [console.execute(command) for command in asked + ["reached 0", "turn", "cut 0 1", "undo", "undo"]]
        self.assertEqual(answers, ["none", "none", "none", "1", "0", "0", "0", "0", "1", "0", "1", "ok", "ok", "ok", "ok"])
        with self.assertRaises(Nothing):
            console.execute("undo")

    def test_answers_by_hand(self):
        console = started(System(1, [(6, [2], [0])]))
        commands = ["column 0", "column 4", "column 6", "row 6", "row 0", "row 2", "parent 0", "parent 5", "parent 6"]
        answers = ["2 6", "6", "none", "0 1 2 3 4 5", "none", "0", "2", "6", "none"]
        commands += ["level 6", "level 1", "depth 0", "depth 6", "room", "fill", "work", "steps", "reached 1 4", "needless"]
        answers += ["4", "1", "3", "0", "10", "0", "24", "4", "5", "4"]
        self.assertEqual([console.execute(command) for command in commands], answers)
        self.assertTrue(all(type(console.execute(command)) is str for command in commands))

    def test_a_new_system_has_nothing_to_take_back(self):
        console = Console()
        console.execute("turn")
        console.execute("system 2; 5:1:0; 3::1")
        with self.assertRaises(Nothing):
            console.execute("undo")
        self.assertEqual(console.execute("show"), "2; 5:1:0; 3::1")
        console.execute("cut 1 7")
        self.assertEqual([console.execute("show"), console.execute("undo")], ["2; 4:1:0; 2::1", "ok"])
        self.assertEqual(console.execute("show"), "2; 5:1:0; 3::1")

    def test_two_consoles_beside_one_another(self):
        one, other = Console(), Console()
        one.execute("system 0; 8:1,3:")
        self.assertEqual([one.execute("show"), other.execute("show")], ["0; 8:1,3:", "0; 1::"])
        other.execute("system 1; 6:2:0")
        one.execute("cut 0 3")
        other.execute("cut 1 4")
        self.assertEqual([one.execute("show"), other.execute("show")], ["0; 3:1,3:", "1; 3:2:0"])
        one.execute("undo")
        with self.assertRaises(Nothing):
            one.execute("undo")
        self.assertEqual([one.execute("show"), other.execute("show")], ["0; 8:1,3:", "1; 3:2:0"])
        self.assertEqual([other.execute("undo"), other.execute("show")], ["ok", "1; 6:2:0"])

    def test_texts_that_merge_and_are_shown_with_the_zones_of_the_property(self):
        console = Console()
        console.execute("system 0; 2:3:; 5:3:; 1:4:")
        self.assertEqual(console.execute("show"), "0; 7:3:; 1:4:")
        console.execute(f"system 6; {10 ** 30}:16:5")
        self.assertEqual(console.execute("show"), f"6; {10 ** 30}:16:5")


class Wrong(WrongCase):
    def setUp(self):
        self.console = started(System(2, [(5, [1], [0]), (3, [], [1])]))
        self.console.execute("cut 1 8")

    def tearDown(self):
        """What can be taken back is as it was."""
        self.assertEqual(self.console.execute("show"), "2; 4:1:0; 3::1")
        self.console.execute("undo")
        self.assertEqual(self.console.execute("show"), "2; 5:1:0; 3::1")
        self.check(Nothing, self.console.execute, "undo")

    def wrong(self, kind, command, **fields):
        name, value = next(iter(fields.items()), (None, None))
        self.check(kind, self.console.execute, command, field=name, value=value)
        self.assertEqual(self.console.execute("show"), "2; 4:1:0; 3::1")

    def test_no_string(self):
        for value in [None, True, False, 0, 1, -1, 10 ** 999, b"turn", b"", (), ("turn",), [], ["turn"], {}, SMALL]:
            self.wrong(InvalidCommand, value)
        for value in (object(), Console, Console(), len, {"turn": 0}, ["system", "0; 1::"]):
            self.wrong(InvalidCommand, value)

    def test_other_words(self):
        words = ["", " ", "  ", "\n", "help", "quit", "Show", "SHOW", "shows", "sho", "turned", "add", "log", "preview"]
        words += ["first_unlike", "budget", "0", "1", "-1", "none", "ok", "system", "systems", "show\n", "turn\n", "undo\n"]
        words += ["\nshow", "\tshow", "show\t", "room\r", "execute", "__init__", "ancestor", "descendants", "meeting"]
        words += ["add 1::", "add (1, [], [])", "roots", "at_level 1", "widest", "x" * 9000, "show;", "\u0455how"]
        for word in words:
            self.wrong(InvalidCommand, word)
            self.wrong(InvalidCommand, " " + word)
            if word != "system":
                self.wrong(InvalidCommand, word + " ")
                self.wrong(InvalidCommand, word + " 0")
                self.wrong(InvalidCommand, word + " 0; 1::")

    def test_too_few_and_too_many_numbers(self):
        for word, (fewest, most) in NUMBERS.items():
            for many in (0, 1, 2, 3, 9, 10, 11, 12, 40):
                if not fewest <= many <= most:
                    self.wrong(InvalidCommand, " ".join([word] + ["0"] * many))
                    self.wrong(InvalidCommand, " ".join([word] + ["-1"] * many))
                    self.wrong(InvalidCommand, " ".join([word] + ["x"] * many))

    def test_words_that_are_no_numbers(self):
        for word, (fewest, most) in NUMBERS.items():
            for many in {fewest, most, 1, 2} - {0}:
                for number in NO_NUMBERS:
                    for at in range(min(many, 3)):
                        numbers = ["3"] * many
                        numbers[at] = number
                        self.wrong(InvalidCommand, " ".join([word, *numbers]))
                        numbers = ["-1"] * many
                        numbers[-1 - at] = number
                        self.wrong(InvalidCommand, " ".join([word, *numbers]))

    def test_spaces_and_newlines(self):
        for word, (fewest, _) in NUMBERS.items():
            command = " ".join([word] + ["1", "3"][:fewest])
            for wrong in (" " + command, command + " ", "  " + command, command + "  ", "\n" + command, command + "\n"):
                self.wrong(InvalidCommand, wrong)
            self.wrong(InvalidCommand, command.replace(" ", "  ") + " " * (fewest == 0))
            self.wrong(InvalidCommand, command.replace(" ", "\n") + "\n" * (fewest == 0))
            self.wrong(InvalidCommand, command.replace(" ", "\t") + "\t" * (fewest == 0))
            self.wrong(InvalidCommand, command + " \n")

    def test_a_command_goes_ahead_of_what_it_asks_for(self):
        """What is no command is none whatever its numbers are."""
        for command in ("column 99 x", "cut 9 0 0", "reached -1 x", "row 7 7", "undo 0", "turn -0"):
            self.wrong(InvalidCommand, command)

    def test_texts(self):
        self.wrong(InvalidText, "system ", part=0)
        self.wrong(InvalidText, "system  ", part=0)
        self.wrong(InvalidText, "system  0; 1::", part=0)
        self.wrong(InvalidText, "system \n", part=0)
        self.wrong(InvalidText, "system 0; 1::\n", part=1)
        self.wrong(InvalidText, "system \n0; 1::", part=0)
        self.wrong(InvalidText, "system 0;\n1::", part=0)
        self.wrong(InvalidText, "system 0; 1:: ", part=1)
        self.wrong(InvalidText, "system 0; 1::; ", part=2)
        self.wrong(InvalidText, "system 0;  1::", part=1)
        self.wrong(InvalidText, "system 0", part=1)
        self.wrong(InvalidText, "system system 0; 1::", part=0)
        self.wrong(InvalidText, "system 7; 1::", part=2)
        self.wrong(InvalidText, "system 0; 0::; 1::", part=3)
        self.wrong(InvalidText, "system 0; 1:1; x", part=1)
        self.wrong(InvalidText, "system 0; " + "; ".join(["1::"] * 13), part=14)
        for command in ("system", "system\n", "system\n0; 1::", "system\t0; 1::", " system 0; 1::", "systems 0; 1::"):
            self.wrong(InvalidCommand, command)

    def test_unknowns_that_there_are_not(self):
        for word in OF_ONE:
            for unknown in (-1, -9, 9, 10, 10 ** 30, 10 ** 99, -(10 ** 99), 10 ** 100 - 1, 1 - 10 ** 100):
                self.wrong(InvalidUnknown, f"{word} {unknown}")
            for unknown in (0, 8):
                self.assertIsInstance(self.console.execute(f"{word} {unknown}"), str)

    def test_spans_that_there_are_not(self):
        for begin, end in ((-1, 3), (7, 8), (9, 10), (0, 0), (3, 3), (3, 2), (0, 8), (0, -1), (0, 10 ** 99), (-1, -1)):
            self.wrong(InvalidSpan, f"cut {begin} {end}")

    def test_places_that_there_are_not(self):
        self.wrong(InvalidPlaces, "reached -1", item=0)
        self.wrong(InvalidPlaces, "reached 9", item=0)
        self.wrong(InvalidPlaces, "reached 0 8 9", item=2)
        self.wrong(InvalidPlaces, "reached 0 9 -1", item=1)
        self.wrong(InvalidPlaces, "reached " + "0 " * 9 + str(10 ** 99), item=9)

    def test_the_errors_of_calls(self):
        self.wrong(Bordered, "turn")
        for many in (1000, 1001):
            console = started(System(1, [(many, [], [0]), (GREAT, [], [])]))
            if many > 1000:
                self.check(TooLarge, console.execute, f"row {many + GREAT}", field="limit", value=1000)
            else:
                found = console.execute(f"row {many + GREAT}")
                self.assertEqual(found, " ".join(map(str, range(1000))))
        self.check(Nothing, Console().execute, "undo")

    def test_the_greatest_numbers_are_taken(self):
        """As forms; of 100 digits no number is an unknown of a system."""
        self.wrong(InvalidSpan, f"cut {10 ** 100 - 1} {10 ** 100 - 1}")
        self.wrong(InvalidSpan, f"cut {1 - 10 ** 100} 0")
        console = started(System(0, [(10 ** 30, [1], [])]))
        self.assertEqual(console.execute(f"parent {10 ** 30 - 2}"), str(10 ** 30 - 1))
        self.assertEqual(console.execute(f"cut 0 {10 ** 30}"), "ok")
        self.check(InvalidSpan, console.execute, f"cut 0 {10 ** 30 + 1}")


if __name__ == "__main__":
    unittest.main()
