"""Live systems: systems that are changed, perhaps within a budget of room."""

from fillbands.checks import is_integer
from fillbands.counts import room
from fillbands.errors import InvalidBudget, InvalidOperation, InvalidZones, Nothing, OverRoom
from fillbands.systems import System, check_system

MOST_LIVE_ZONES = 40
# By the word of an operation: how many further items it has.
FURTHER_ITEMS = {"add": 1, "cut": 2, "turn": 0}


class LiveSystem:
    """A system that is changed, and whose changes can be taken back."""

    def __init__(self, system):
        check_system(system)
        self._system = system
        # None unless there is a limit to the room.
        self._budget = None
        self._calls = []
        # The system ahead of each of the calls.
        self._earlier = []

    @property
    def present(self):
        return self._system

    def entries(self):
        """The room of all columns of the system."""
        return whole_room(self._system)

    def __eq__(self, other):
        return isinstance(other, LiveSystem) and self._budget == other._budget and self._system == other._system

    def add(self, zone):
        """Put a zone behind the others."""
        self._change(("add", zone))

    def cut(self, begin, end):
        """Keep the inner unknowns of a span only."""
        self._change(("cut", begin, end))

    def turn(self):
        """Put the unknowns into the opposite sequence."""
        self._change(("turn",))

    def undo(self):
        """Take back the last change that is not taken back yet."""
        if not self._calls:
            raise Nothing("there is nothing to take back")
        self._calls.pop()
        self._system = self._earlier.pop()

    def log(self):
        """The changes that are not taken back, as operations."""
        return [copied(call) for call in self._calls]

    def preview(self, *operations):
        """The room behind some operations; the system stays as it is."""
        for operation in operations:
            check_operation(operation)
        system = self._system
        for operation in operations:
            system = self._behind(system, operation)
        return whole_room(system)

    def _change(self, operation):
        system = self._behind(self._system, operation)
        self._calls.append(copied(operation))
        self._earlier.append(self._system)
        self._system = system

    def _behind(self, system, operation):
        """The system that an operation makes of one, if it keeps to the budget."""
        found = changed(system, operation)
        check_room(found, self._budget)
        return found


class RoomSystem(LiveSystem):
    """A live system whose room is kept within a budget."""

    def __init__(self, system, budget):
        super().__init__(system)
        if not is_integer(budget) or budget < 0:
            raise InvalidBudget("a budget is an integer from 0 on")
        check_room(system, budget)
        self._budget = budget

    @property
    def budget(self):
        return self._budget


def whole_room(system):
    """The room of all columns of a system."""
    return room(system, 0, system.unknowns)


def check_room(system, budget):
    """Raise OverRoom if the room of a system is more than a budget, where there is one."""
    if budget is None:
        return
    count = whole_room(system)
    if count > budget:
        raise OverRoom(count)


def check_operation(value):
    """Raise InvalidOperation unless a value is a tuple of a word and its items, whatever these are."""
    if not isinstance(value, tuple) or len(value) == 0 or not isinstance(value[0], str):
        raise InvalidOperation("an operation is a tuple that begins with a word")
    if value[0] not in FURTHER_ITEMS or len(value) != 1 + FURTHER_ITEMS[value[0]]:
        raise InvalidOperation("an operation is one of the calls with its arguments")


def changed(system, operation):
    """The system that an operation makes of one."""
    if operation[0] == "add":
        return added(system, operation[1])
    if operation[0] == "cut":
        return system.cut(operation[1], operation[2])
    return system.turned()


def added(system, zone):
    """The system with a zone behind its others."""
    # Alone in a system the zone has the number 0, and so has the error if it is none.
    alone = System(system.borders, [zone])
    found = system.joined(alone)
    if len(found.zones) > MOST_LIVE_ZONES:
        raise InvalidZones(None)
    return found


def copied(operation):
    """An operation with lists of its own."""
    if operation[0] != "add":
        return operation
    count, offsets, touches = operation[1]
    return ("add", (count, list(offsets), list(touches)))
