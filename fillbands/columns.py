"""Columns: what each unknown is coupled with when its turn comes."""

from fillbands.errors import NotCoupled, TooLarge
from fillbands.systems import MOST_LISTED, check_one, check_pair


def column(system, unknown):
    """The column of an unknown, ascending."""
    check_one(system, unknown)
    return system.elimination.members(unknown)


def filled(system, one, other):
    """Whether the later one of two unknowns is in the column of the earlier one."""
    check_pair(system, one, other)
    if one == other:
        return False
    return system.elimination.has(min(one, other), max(one, other))


def row(system, unknown):
    """The unknowns whose columns have one, ascending."""
    check_one(system, unknown)
    found = system.elimination.holders(unknown, MOST_LISTED)
    if len(found) > MOST_LISTED:
        raise TooLarge(MOST_LISTED)
    return found


def first_coupled(system, one, other):
    """The unknown at whose elimination two become coupled, None if they are from the start."""
    check_pair(system, one, other)
    if one == other:
        raise NotCoupled("an unknown is not coupled with itself")
    if system.coupled(one, other):
        return None
    first = system.elimination.first_holding(min(one, other), max(one, other))
    if first is None:
        raise NotCoupled(f"{one} and {other} never become coupled")
    return first
