"""Maps with the fewest one bits in their masks: the fewest inputs of XORs."""

from xorbanks.checks import check_bits, check_differences, check_map, check_small_width
from xorbanks.counting import spaces_without
from xorbanks.maps import filled
from xorbanks.vectors import combined, independent, orthogonal, reduced


def ones(mask):
    """Return the number of one bits."""
    digits = f"{mask:b}"
    return digits.count("1")


def weight_of(masks):
    return sum([ones(mask) for mask in masks])


def lightest_basis(masks):
    """Return independent masks with the same span and the least weight."""
    # To take each lightest mask that is independent of those before is best: if a basis lacks one of them,
    # it can stand there in the place of one that is no lighter.
    return independent((), sorted(combined(reduced(masks)), key=ones))


def weight(width, masks):
    """Return the number of one bits of all masks together."""
    check_small_width(width)
    check_map(width, masks)
    return weight_of(masks)


def lightened(width, masks):
    """Return a map with as many masks and the same kernel that has the least weight."""
    check_small_width(width)
    check_map(width, masks)
    # Maps have the same kernel exactly if their masks have the same span.
    return filled(lightest_basis(masks), len(masks))


def least_weight(width, differences, bits):
    """Return the least weight of a free map with so many masks, None if there is none."""
    masks = lightest_map(width, differences, bits)
    if masks is None:
        return None
    return weight_of(masks)


def lightest_map(width, differences, bits):
    """Return a free map with so many masks and the least weight, None if there is none."""
    check_small_width(width)
    check_differences(width, differences)
    check_bits(bits)
    kernels = [kernel for spaces in spaces_without(width, differences)[max(width - bits, 0):] for kernel in spaces]
    maps = [lightest_basis(orthogonal(width, kernel)) for kernel in kernels]
    if len(maps) == 0:
        return None
    return filled(min(maps, key=weight_of), bits)
