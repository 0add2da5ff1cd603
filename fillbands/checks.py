"""Tests of numbers that several modules are passed."""

from fillbands.errors import InvalidNumber, InvalidSpan, InvalidUnknown


def is_integer(value):
    return isinstance(value, int) and not isinstance(value, bool)


def is_within(value, low, high):
    """Whether any value is an integer from low to high."""
    return is_integer(value) and low <= value <= high


def check_unknown(value, number):
    """Raise InvalidUnknown unless a value is one of so many unknowns."""
    if not is_within(value, 0, number - 1):
        raise InvalidUnknown(f"an unknown is an integer from 0, less than {number}")


def check_span(begin, end, number):
    """Raise InvalidSpan unless two values bound a span of so many unknowns."""
    if not is_within(begin, 0, number - 1):
        raise InvalidSpan(f"begin is an integer from 0, less than {number}")
    if not is_within(end, begin + 1, number):
        raise InvalidSpan(f"end is an integer greater than begin, at most {number}")


def check_integer(value):
    """Raise InvalidNumber unless a value is an integer."""
    if not is_integer(value):
        raise InvalidNumber("a number is an integer")


def check_count(value):
    """Raise InvalidNumber unless a value is an integer from 0 on."""
    if not is_integer(value) or value < 0:
        raise InvalidNumber("a number is an integer from 0 on")
