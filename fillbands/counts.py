"""Counts: room and work that columns take, and how wide they are."""

from fillbands.checks import check_integer
from fillbands.elimination import size_of
from fillbands.systems import check_part, check_system


def room(system, begin, end):
    """How many unknowns the columns of a span have together."""
    check_part(system, begin, end)
    return room_of(system, begin, end)


def fill(system, begin, end):
    """How many unknowns in the columns of a span are fill."""
    check_part(system, begin, end)
    # Whatever an unknown is coupled with from the start, of those behind it, is in its column.
    return room_of(system, begin, end) - system.couplings_from(begin, end)


def work(system, begin, end):
    """The sum of s * (s + 3) // 2 over the columns of a span, s the number of unknowns of a column."""
    check_part(system, begin, end)
    sizes = sizes_of(system, begin, end)
    return sum([many * (size * (size + 3) // 2) for _, size, many in sizes])


def widest(system, begin, end):
    """The tuple of the greatest number of unknowns of a column of a span, and the first unknown that has it."""
    check_part(system, begin, end)
    greatest = -1
    first = None
    for unknown, size, _ in sizes_of(system, begin, end):
        if size > greatest:
            greatest = size
            first = unknown
    return greatest, first


def first_wide(system, size):
    """The first unknown whose column has at least so many unknowns, None if there is none."""
    check_system(system)
    check_integer(size)
    for unknown, found, _ in sizes_of(system, 0, system.unknowns):
        if found >= size:
            return unknown
    return None


def room_of(system, begin, end):
    return sum([many * size for _, size, many in sizes_of(system, begin, end)])


def sizes_of(system, begin, end):
    """The kinds of columns of a span, as (first unknown, how many unknowns a column has, how many columns)."""
    return [(unknown, size_of(mask), many) for unknown, mask, many in system.elimination.kinds(begin, end)]
