"""Levels: which unknowns can be eliminated side by side."""

from fillbands.checks import check_integer
from fillbands.systems import check_one, check_system


def level(system, unknown):
    """1 without descendants, else 1 more than the greatest level of the children."""
    check_one(system, unknown)
    return system.growth.level(unknown)


def steps(system):
    """The greatest level."""
    check_system(system)
    return system.growth.greatest_level()


def at_level(system, number):
    """How many unknowns have a level."""
    check_system(system)
    check_integer(number)
    return sum([many for _, many in system.growth.having(number)])


def first_at(system, number):
    """The first unknown that has a level, None if there is none."""
    check_system(system)
    check_integer(number)
    return min([first for first, _ in system.growth.having(number)], default=None)
