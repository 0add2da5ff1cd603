"""Texts of systems."""

from fillbands.errors import InvalidBorders, InvalidText, InvalidZones
from fillbands.systems import System, check_system

MOST_DIGITS = 100


def show_system(system):
    """The text of a system, with the zones of the property."""
    check_system(system)
    return "; ".join([str(system.borders)] + [zone_shown(zone) for zone in system.zones])


def zone_shown(zone):
    count, offsets, touches = zone
    return f"{count}:{list_shown(offsets)}:{list_shown(touches)}"


def list_shown(numbers):
    return ",".join([str(number) for number in numbers])


def read_system(text):
    """The system with a text."""
    if not isinstance(text, str):
        raise InvalidText(None)
    parts = text.split("; ")
    if not is_number(parts[0]):
        raise InvalidText(0)
    for part in range(1, len(parts)):
        if not is_zone_text(parts[part]):
            raise InvalidText(part)
    try:
        return System(int(parts[0]), [zone_read(part) for part in parts[1:]])
    except (InvalidBorders, InvalidZones):
        raise InvalidText(len(parts)) from None


def is_number(text):
    """Whether a string is a decimal number of not too many digits, without a sign and without zeros in front."""
    if not text.isascii() or not text.isdigit() or len(text) > MOST_DIGITS:
        return False
    return text == "0" or not text.startswith("0")


def is_zone_text(text):
    """Whether a string has the form of a zone, whatever its numbers."""
    fields = text.split(":")
    return len(fields) == 3 and is_number(fields[0]) and is_list_text(fields[1]) and is_list_text(fields[2])


def is_list_text(text):
    return text == "" or all([is_number(item) for item in text.split(",")])


def zone_read(text):
    """What a string of the form of a zone tells; its numbers may be beyond their range."""
    count, offsets, touches = text.split(":")
    return (int(count), list_read(offsets), list_read(touches))


def list_read(text):
    return [int(item) for item in text.split(",")] if text else []
