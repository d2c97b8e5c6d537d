"""Maps with the fewest cycles, and maps with the least degree, for groups."""

from xorbanks.checks import check_bits, check_groups, check_small_width
from xorbanks.conflicts import fullest
from xorbanks.counting import spaces_without
from xorbanks.maps import bank_of, filled
from xorbanks.vectors import orthogonal, powers


def banks_of_all(width, masks):
    """Return the banks of all addresses, ascending by the address."""
    banks = [0]
    for power in powers(width):
        added = bank_of(masks, power)
        banks = banks + [bank ^ added for bank in banks]
    return banks


def rated(width, groups, kernel):
    """Return (cycles, greatest degree, masks) for the map of independent masks with a kernel."""
    masks = orthogonal(width, kernel)
    banks = banks_of_all(width, masks)
    degrees = [fullest([banks[address] for address in group]) for group in groups]
    return (sum(degrees), max(degrees, default=0), masks)


def rated_maps(width, groups, bits):
    """Return what `rated` returns for the smallest kernels that so many masks can have.

    Each other kernel contains one of these, and a map with a kernel inside that of another map has no
    greater degrees. So there are no better maps.
    """
    return [rated(width, groups, kernel) for kernel in spaces_without(width, ())[max(width - bits, 0)]]


def check_search(width, groups, bits):
    check_small_width(width)
    check_groups(width, groups)
    check_bits(bits)


def fewest_cycles(width, groups, bits):
    """Return the least number of cycles of a map with so many masks."""
    check_search(width, groups, bits)
    return min([cycles for cycles, _, _ in rated_maps(width, groups, bits)])


def quickest_map(width, groups, bits):
    """Return a map with so many masks and the fewest cycles."""
    check_search(width, groups, bits)
    _, masks = min([(cycles, masks) for cycles, _, masks in rated_maps(width, groups, bits)])
    return filled(masks, bits)


def least_degree(width, groups, bits):
    """Return the least number that the degrees of some map with so many masks do not exceed in any group."""
    check_search(width, groups, bits)
    return min([most for _, most, _ in rated_maps(width, groups, bits)])


def smoothest_map(width, groups, bits):
    """Return a map with so many masks whose greatest degree is the least one."""
    check_search(width, groups, bits)
    _, masks = min([(most, masks) for _, most, masks in rated_maps(width, groups, bits)])
    return filled(masks, bits)


def trade(width, groups):
    """Return the fewest cycles for 0, 1, 2 .. masks, up to the number from which on they stay the same."""
    fewest = [fewest_cycles(width, groups, 0)]
    # One cycle for each group is the least there can be, and as many masks as the width has bits reach it.
    while fewest[-1] > len(groups):
        fewest.append(fewest_cycles(width, groups, len(fewest)))
    return tuple(fewest)
