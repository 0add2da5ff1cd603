"""Alike: where the columns of two systems differ, and which couplings could as well be left out."""

from fillbands.elimination import size_of
from fillbands.errors import NotCoupled, UnlikeSystems
from fillbands.systems import check_pair, check_part, check_system


def first_unlike(system, second):
    """The first unknown whose columns differ, None if there is none."""
    check_system(system)
    check_system(second)
    if (system.borders, system.length) != (second.borders, second.length):
        raise UnlikeSystems("systems that are compared have as many inner and as many border unknowns")
    return system.elimination.first_unlike(second.elimination)


def needless(system, one, other):
    """Whether without the coupling of two unknowns all columns are the same."""
    check_pair(system, one, other)
    if not system.coupled(one, other):
        raise NotCoupled(f"{one} and {other} are not coupled")
    return system.elimination.is_needless(min(one, other), max(one, other))


def needless_in(system, begin, end):
    """How many needless couplings have their lesser unknown in a span."""
    check_part(system, begin, end)
    return sum([many * size_of(bits) for _, bits, many in system.elimination.needless_kinds(begin, end)])


def first_needless(system):
    """The tuple of the needless coupling with the least lesser unknown and the least greater one, None without any."""
    check_system(system)
    for unknown, bits, _ in system.elimination.needless_kinds(0, system.length):
        if bits:
            return unknown, system.elimination.told_by(unknown, bits)[0]
    return None
