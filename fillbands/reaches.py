"""Reaches: what changes at some places touch, the places and all their ancestors."""

from fillbands.checks import check_count, check_unknown, is_within
from fillbands.climbing import many_passed, nth_passed, passed_from
from fillbands.errors import InvalidPlaces
from fillbands.systems import check_system

MOST_PLACES = 10


def reached(system, places):
    """How many unknowns are reached."""
    check_places(system, places)
    return many_passed(system.elimination, places)


def is_reached(system, places, unknown):
    """Whether an unknown is reached."""
    check_places(system, places)
    check_unknown(unknown, system.unknowns)
    return any([piece.has(unknown) for piece in passed_from(system.elimination, places)])


def nth_reached(system, places, number):
    """The one of the reached unknowns that has so many lesser ones, None if there are not so many."""
    check_places(system, places)
    check_count(number)
    return nth_passed(system.elimination, places, number)


def reached_room(system, places):
    """How many unknowns the columns of all that are reached have together."""
    check_places(system, places)
    return sum([piece.room(system.elimination) for piece in passed_from(system.elimination, places)])


def check_places(system, places):
    """Raise what is wrong with a system or a list of places in it."""
    check_system(system)
    if not isinstance(places, list) or not 1 <= len(places) <= MOST_PLACES:
        raise InvalidPlaces(None)
    for item, place in enumerate(places):
        if not is_within(place, 0, system.unknowns - 1):
            raise InvalidPlaces(item)
