"""Maps whose first masks are fixed: which masks must be added, in how many ways, and which can go.

The fixed masks leave the differences in their kernel to the masks that are added. So each question is one
about the kernel: its addresses are told by their coordinates, of which there are as many as it has dimensions.
"""

from xorbanks.cases import free_map_of
from xorbanks.checks import MOST_MASKS, check_bits, check_differences, check_map, check_small_width
from xorbanks.conflicts import hidden
from xorbanks.counting import counts_of_kernels, least_rank, polynomial_of, value_of
from xorbanks.errors import TooMany
from xorbanks.vectors import highest_bit, orthogonal


def check_fixed(width, masks, differences):
    check_small_width(width)
    check_map(width, masks)
    check_differences(width, differences)


def coordinates(leading, address):
    """Return the int whose bits are those of the address at the leading bits of a basis."""
    return sum([1 << index for index, bit in enumerate(leading) if address & bit])


def spread(leading, mask):
    """Return the mask of addresses that a mask of coordinates stands for."""
    return sum([bit for index, bit in enumerate(leading) if (mask >> index) & 1])


def leading_bits(width, masks):
    """Return the highest bits of the kernel's basis, ascending: each is in one address of the basis only."""
    return [highest_bit(row) for row in orthogonal(width, masks)]


def left_over(width, masks, differences):
    """Return the coordinates of the differences in the kernel of the masks, ascending."""
    leading = leading_bits(width, masks)
    return tuple([coordinates(leading, difference) for difference in hidden(width, masks, differences)])


def kernels_left(width, masks, differences):
    """Return the number of kernels of each rank that added masks may have within the kernel of the masks."""
    return counts_of_kernels(len(leading_bits(width, masks)), left_over(width, masks, differences))


def further_bits(width, masks, differences):
    """Return the least number of masks that must be added so that the map is free."""
    check_fixed(width, masks, differences)
    return least_rank(kernels_left(width, masks, differences))


def count_extensions(width, masks, differences, bits):
    """Return in how many ways so many masks can be added so that the map is free."""
    check_fixed(width, masks, differences)
    check_bits(bits)
    counts = kernels_left(width, masks, differences)
    # Within the kernel a mask matters by its coordinates alone; the other bits of it are free to choose.
    unused = width - (len(counts) - 1)
    return value_of(polynomial_of(counts), 1 << bits) << (unused * bits)


def extended(width, masks, differences):
    """Return the map with the least number of masks added so that it is free."""
    needed = further_bits(width, masks, differences)
    if len(masks) + needed > MOST_MASKS:
        raise TooMany(MOST_MASKS)
    leading = leading_bits(width, masks)
    added = free_map_of(len(leading), left_over(width, masks, differences), needed)
    return masks + tuple([spread(leading, mask) for mask in added])


def useless(width, masks, differences):
    """Return the indexes of the masks without which alone the map has no more hidden differences."""
    check_fixed(width, masks, differences)
    many = len(hidden(width, masks, differences))
    without = [masks[:index] + masks[index + 1:] for index in range(len(masks))]
    return tuple([index for index, rest in enumerate(without) if len(hidden(width, rest, differences)) == many])
