"""The console: commands that change a live system and ask for what comes of it."""

from fillbands.alike import needless_in
from fillbands.columns import column, row
from fillbands.counts import fill, room, work
from fillbands.errors import InvalidCommand
from fillbands.levels import level, steps
from fillbands.live import LiveSystem
from fillbands.reaches import reached
from fillbands.texts import is_number, read_system, show_system
from fillbands.tree import depth, parent

FIRST_TEXT = "0; 1::"
CHANGES = ("cut", "turn", "undo")
# By the word of a command: how many numbers stand behind it, at least and at most.
NUMBERS = {
    "cut": (2, 2),
    "turn": (0, 0),
    "undo": (0, 0),
    "show": (0, 0),
    "column": (1, 1),
    "row": (1, 1),
    "parent": (1, 1),
    "level": (1, 1),
    "depth": (1, 1),
    "room": (0, 0),
    "fill": (0, 0),
    "work": (0, 0),
    "steps": (0, 0),
    "reached": (1, 10),
    "needless": (0, 0),
}


class Console:
    """A live system that is told by commands what to do."""

    def __init__(self):
        self._live = LiveSystem(read_system(FIRST_TEXT))

    def execute(self, command):
        """Perform a command and answer it."""
        if not isinstance(command, str):
            raise InvalidCommand("a command is a string")
        # This one goes first: within a text there may be spaces side by side.
        if command.startswith("system "):
            self._live = LiveSystem(read_system(command.removeprefix("system ")))
            return "ok"
        word, *texts = command.split(" ")
        check_form(word, texts)
        numbers = [int(text) for text in texts]
        if word in CHANGES:
            self._change(word, numbers)
            return "ok"
        return shown(answered(self._live.present, word, numbers))

    def _change(self, word, numbers):
        if word == "cut":
            self._live.cut(numbers[0], numbers[1])
        elif word == "turn":
            self._live.turn()
        else:
            self._live.undo()


def check_form(word, texts):
    """Raise InvalidCommand unless a word is one of a command, and so many numbers belong behind it."""
    if word not in NUMBERS:
        raise InvalidCommand("there is no command of this word")
    fewest, most = NUMBERS[word]
    if not fewest <= len(texts) <= most or not all([is_signed_number(text) for text in texts]):
        raise InvalidCommand("other words stand behind the first one than belong there")


def is_signed_number(text):
    """Whether a string is an integer as commands have it."""
    if text.startswith("-"):
        return is_number(text[1:]) and text != "-0"
    return is_number(text)


def answered(system, word, numbers):
    """What a question about a system is answered: a string, a number, a list of unknowns or None."""
    if word == "reached":
        return reached(system, numbers)
    if numbers:
        return answered_of_one(system, word, numbers[0])
    return answered_of_all(system, word)


def answered_of_one(system, word, unknown):
    if word == "column":
        return column(system, unknown)
    if word == "row":
        return row(system, unknown)
    if word == "parent":
        return parent(system, unknown)
    if word == "level":
        return level(system, unknown)
    return depth(system, unknown)


def answered_of_all(system, word):
    if word == "show":
        return show_system(system)
    if word == "room":
        return room(system, 0, system.unknowns)
    if word == "fill":
        return fill(system, 0, system.unknowns)
    if word == "work":
        return work(system, 0, system.unknowns)
    if word == "steps":
        return steps(system)
    return needless_in(system, 0, system.unknowns)


def shown(answer):
    """An answer as a string."""
    if answer is None or answer == []:
        return "none"
    if isinstance(answer, list):
        return " ".join([str(unknown) for unknown in answer])
    return str(answer)
