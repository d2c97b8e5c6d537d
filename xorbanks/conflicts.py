"""Conflicts of a map: different addresses of one group with the same bank."""

from xorbanks.checks import check_differences, check_groups, check_map, check_width
from xorbanks.maps import bank_of


def fullest(banks):
    """Return how often the most frequent one of some banks occurs."""
    counts = {}
    for place in banks:
        counts[place] = counts.get(place, 0) + 1
    return max(counts.values())


def degrees(width, masks, groups):
    """Return the degree of the map in each group."""
    check_width(width)
    check_map(width, masks)
    check_groups(width, groups)
    return tuple([fullest([bank_of(masks, address) for address in group]) for group in groups])


def cycles(width, masks, groups):
    """Return the sum of the degrees."""
    return sum(degrees(width, masks, groups))


def is_free(width, masks, groups):
    """Return whether no group has two addresses with the same bank."""
    return all([most == 1 for most in degrees(width, masks, groups)])


def conflicts(width, masks, groups):
    """Yield (index of the group, one, other) for all pairs with the same bank, ascending."""
    check_width(width)
    check_map(width, masks)
    check_groups(width, groups)
    for index, group in enumerate(groups):
        banks = [bank_of(masks, address) for address in group]
        for at, one in enumerate(group):
            for later in range(at + 1, len(group)):
                if banks[at] == banks[later]:
                    yield (index, one, group[later])


def first_conflict(width, masks, groups):
    """Return the first of the conflicts, None if there is none."""
    for found in conflicts(width, masks, groups):
        return found
    return None


def hidden(width, masks, differences):
    """Return the differences that have bank 0, ascending."""
    check_width(width)
    check_map(width, masks)
    check_differences(width, differences)
    return tuple([difference for difference in differences if bank_of(masks, difference) == 0])
