"""How many maps are free for differences, with any number of masks, by one polynomial."""

from xorbanks.checks import (
    check_address,
    check_bits,
    check_coefficients,
    check_differences,
    check_small_width,
    is_int,
)
from xorbanks.errors import InvalidNumber, InvalidWidth, NotIncluded
from xorbanks.vectors import highest_bit


def greater_spaces(width, barred, spaces):
    """Return the spaces with one dimension more that hold nothing barred.

    A space is a pair: the highest bits of its basis, added up, and the list of all its addresses.
    """
    greater = []
    for leading, members in spaces:
        for vector in range(leading + 1, 1 << width):
            # A vector above the leading bits and without them is the last one of a basis, so each space
            # comes up once: from the space of the other vectors of its basis.
            if vector & leading == 0:
                added = [vector ^ member for member in members]
                if not any([address in barred for address in added]):
                    greater.append((leading | highest_bit(vector), members + added))
    return greater


def spaces_without(width, differences):
    """Return, for each dimension from 0, the spaces that hold none of the differences, for a width from 0.

    Each space is the list of all its addresses.
    """
    barred = {difference: True for difference in differences}
    spaces = [(0, [0])]
    found = [spaces]
    for _ in range(width):
        spaces = greater_spaces(width, barred, spaces)
        found.append(spaces)
    return [[members for _, members in spaces] for spaces in found]


def counts_of_kernels(width, differences):
    """Return, for each rank from 0, the number of kernels of free maps with it, for a width from 0."""
    counts = [len(spaces) for spaces in spaces_without(width, differences)]
    return tuple(counts[::-1])


def least_rank(counts):
    """Return the least rank for which there is a kernel."""
    return min([bits for bits, count in enumerate(counts) if count > 0])


def polynomial_of(counts):
    """Return the coefficients of the polynomial for so many kernels of each rank."""
    # The maps of rank k with one and the same kernel take k independent vectors to independent banks.
    # Among q banks there are (q - 1) * (q - 2) * (q - 4) * .. ways to do this, k factors.
    result = (counts[-1],)
    for index in reversed(range(len(counts) - 1)):
        scaled = [coefficient << index for coefficient in result]
        raised = [one - other for one, other in zip((0,) + result, scaled + [0])]
        result = (raised[0] + counts[index],) + tuple(raised[1:])
    return result


def value_of(coefficients, number):
    """Return the value of a checked polynomial at a checked int."""
    total = 0
    for coefficient in reversed(coefficients):
        total = total * number + coefficient
    return total


def polynomial(width, differences):
    """Return the coefficients of the polynomial of the differences, the constant one first."""
    return polynomial_of(kernel_counts(width, differences))


def value_at(coefficients, number):
    """Return the value of a polynomial at an int."""
    check_coefficients(coefficients)
    if not is_int(number):
        raise InvalidNumber(number)
    return value_of(coefficients, number)


def count_maps(width, differences, bits):
    """Return how many free maps with so many masks there are."""
    check_small_width(width)
    check_differences(width, differences)
    check_bits(bits)
    return value_of(polynomial(width, differences), 1 << bits)


def least_bits(width, differences):
    """Return the least number of masks of a free map."""
    return least_rank(kernel_counts(width, differences))


def kernel_counts(width, differences):
    """Return, for each k from 0, the number of spaces of dimension width - k without any difference."""
    check_small_width(width)
    check_differences(width, differences)
    return counts_of_kernels(width, differences)


def contracted(width, differences, address):
    """Return the differences of the next smaller width that remain if one of them is made 0."""
    check_small_width(width)
    check_differences(width, differences)
    check_address(width, address)
    if address not in differences:
        raise NotIncluded(address)
    if width == 1:
        raise InvalidWidth(width)
    bit = highest_bit(address)
    # Of a difference and its XOR with the address, the smaller one is the one without the bit.
    rest = [min(other, other ^ address) for other in differences if other != address]
    return tuple(sorted({(other // (2 * bit)) * bit + other % bit for other in rest}))
