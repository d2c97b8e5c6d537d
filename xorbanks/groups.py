"""Groups of addresses that are accessed in one cycle: differences, strides and blocks."""

from xorbanks.checks import (
    MOST_IN_GROUP,
    are_groups_of,
    check_address,
    check_group,
    check_groups,
    check_vectors,
    check_width,
    is_group_of,
    is_int,
)
from xorbanks.errors import InvalidCount, InvalidNumber, TooMany
from xorbanks.vectors import combined, reduced


def is_group(width, value):
    """Return whether any value is a group of the width."""
    check_width(width)
    return is_group_of(width, value)


def are_groups(width, value):
    """Return whether any value is groups of the width."""
    check_width(width)
    return are_groups_of(width, value)


def differences(width, groups):
    """Return the differences of all pairs of different addresses within one group, ascending."""
    check_width(width)
    check_groups(width, groups)
    return tuple(sorted({one ^ other for group in groups for one in group for other in group if one < other}))


def strided(width, start, step, count):
    """Return the group of the addresses that so many steps from the start reach, the start included."""
    check_width(width)
    check_address(width, start)
    if not is_int(step):
        raise InvalidNumber(step)
    if not is_int(count) or not 1 <= count <= MOST_IN_GROUP:
        raise InvalidCount(count)
    return tuple(sorted({(start + index * step) % (1 << width) for index in range(count)}))


def block(width, start, vectors):
    """Return the group of the addresses that differ from the start by an address of the span."""
    check_width(width)
    check_address(width, start)
    check_vectors(width, vectors)
    rows = reduced(vectors)
    if (1 << len(rows)) > MOST_IN_GROUP:
        raise TooMany(MOST_IN_GROUP)
    return tuple(sorted([start ^ vector for vector in combined(rows)]))


def as_block(width, group):
    """Return the least address and the basis of the differences of a block, None for another group."""
    check_width(width)
    check_group(width, group)
    least = group[0]
    rows = reduced([least ^ address for address in group])
    # The addresses lie in one block of these rows; they are all of it exactly if they are as many.
    if len(group) != (1 << len(rows)):
        return None
    return (least, rows)
