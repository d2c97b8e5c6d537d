"""Maps from addresses to banks: banks, kernels, recodings and inverses."""

from xorbanks.checks import are_masks, check_address, check_map, check_width
from xorbanks.errors import Dependent, InvalidMap, NotInvertible
from xorbanks.vectors import independent, orthogonal, parity, powers, reduced, remainder


def bank_of(masks, address):
    """Return the bank of a checked address under checked masks."""
    return sum([parity(address & mask) << index for index, mask in enumerate(masks)])


def are_independent(masks):
    return len(reduced(masks)) == len(masks)


def filled(masks, bits):
    """Return the map of so many masks that begins with these and has the same kernel."""
    return masks + (0,) * (bits - len(masks))


def recoded(masks, others):
    """Return the recoding from checked masks to others, None if there is none."""
    size = len(masks)
    # Each mask carries a bit of its own below the mask, so that a remainder tells which masks made it.
    rows = reduced([(mask << size) | (1 << index) for index, mask in enumerate(masks)])
    made = [remainder(rows, other << size) for other in others]
    if any([choice >> size for choice in made]):
        return None
    return tuple(made)


def is_map(width, value):
    """Return whether any value is a map of the width."""
    check_width(width)
    return are_masks(width, value)


def bank(width, masks, address):
    """Return the bank of an address."""
    check_width(width)
    check_map(width, masks)
    check_address(width, address)
    return bank_of(masks, address)


def kernel(width, masks):
    """Return the basis of the space of all addresses with bank 0."""
    check_width(width)
    check_map(width, masks)
    return orthogonal(width, masks)


def bank_count(width, masks):
    """Return how many different banks the addresses have."""
    check_width(width)
    check_map(width, masks)
    return 1 << len(reduced(masks))


def joined(width, *maps):
    """Return the map with the masks of all maps, one map after the other."""
    check_width(width)
    for given in maps:
        check_map(width, given)
    result = tuple([mask for masks in maps for mask in masks])
    check_map(width, result)
    return result


def recoding(width, masks, others):
    """Return a map that makes the banks under others from those under masks, None if there is none."""
    check_width(width)
    check_map(width, masks)
    check_map(width, others)
    if len(masks) == 0:
        raise InvalidMap(masks)
    return recoded(masks, others)


def completed(width, masks):
    """Return the map with powers of two behind its masks that gives different addresses different banks."""
    check_width(width)
    check_map(width, masks)
    if not are_independent(masks):
        raise Dependent()
    return masks + independent(masks, powers(width))


def inverse(width, masks):
    """Return the map that makes each address from its bank."""
    check_width(width)
    check_map(width, masks)
    if len(masks) != width or not are_independent(masks):
        raise NotInvertible()
    return recoded(masks, powers(width))
