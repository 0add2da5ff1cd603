"""The errors of the package: each is a FillError, and so a ValueError."""


class FillError(ValueError):
    """Any error that the package raises."""


class InvalidZones(FillError):
    """Zones that make no system; item is the number of the wrong one, or None."""

    def __init__(self, item):
        super().__init__(f"no valid zones, wrong item: {item}")
        self.item = item


class InvalidPlaces(FillError):
    """No list of places; item is the number of the wrong one, or None."""

    def __init__(self, item):
        super().__init__(f"no valid places, wrong item: {item}")
        self.item = item


class InvalidText(FillError):
    """No text of a system; part is the number of the wrong part, or None."""

    def __init__(self, part):
        super().__init__(f"no text of a system, wrong part: {part}")
        self.part = part


class TooLarge(FillError):
    """A list would have more items than limit."""

    def __init__(self, limit):
        super().__init__(f"more than {limit} items")
        self.limit = limit


class OverRoom(FillError):
    """The room would be count, which is more than the budget."""

    def __init__(self, count):
        super().__init__(f"a room of {count} is over the budget")
        self.count = count


class InvalidBorders(FillError):
    """No number of border unknowns."""


class InvalidSystem(FillError):
    """No system."""


class InvalidUnknown(FillError):
    """No unknown of the system."""


class InvalidSpan(FillError):
    """No begin or no end of a span."""


class InvalidNumber(FillError):
    """No integer, or one that is out of range."""


class InvalidBudget(FillError):
    """No budget of room."""


class UnlikeSystems(FillError):
    """Two systems that cannot be taken together."""


class Bordered(FillError):
    """A system with border unknowns where none may be."""


class NotCoupled(FillError):
    """Two unknowns that are not coupled."""


class InvalidOperation(FillError):
    """No operation of a live system."""


class Nothing(FillError):
    """There is nothing to take back."""


class InvalidCommand(FillError):
    """No command of the console."""
