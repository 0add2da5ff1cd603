"""The tree: which unknowns wait for which."""

from fillbands.checks import check_count
from fillbands.climbing import many_passed, meeting_of, nth_passed
from fillbands.systems import check_one, check_pair, check_system


def parent(system, unknown):
    """The least unknown of a column, None if it is empty."""
    check_one(system, unknown)
    return system.elimination.parent(unknown)


def ancestor(system, unknown, steps):
    """The unknown to which so many steps to the parent lead, None if there are not so many."""
    check_one(system, unknown)
    check_count(steps)
    return nth_passed(system.elimination, [unknown], steps)


def depth(system, unknown):
    """How many ancestors an unknown has."""
    check_one(system, unknown)
    return many_passed(system.elimination, [unknown]) - 1


def descendants(system, unknown):
    """How many unknowns have one as an ancestor."""
    check_one(system, unknown)
    return system.growth.descendants(unknown)


def meeting(system, one, other):
    """The least unknown that is each of two or an ancestor of it, None if there is none."""
    check_pair(system, one, other)
    return meeting_of(system.elimination, one, other)


def roots(system):
    """How many unknowns have an empty column."""
    check_system(system)
    kinds = system.elimination.kinds(0, system.unknowns)
    return sum([many for _, mask, many in kinds if mask == 0])
