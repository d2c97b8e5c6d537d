"""What an int, a width, an address, vectors, a map, groups and the like are, and the common errors."""

from xorbanks.errors import (
    InvalidAddress,
    InvalidBits,
    InvalidDifferences,
    InvalidGroup,
    InvalidGroups,
    InvalidMap,
    InvalidNumber,
    InvalidVectors,
    InvalidWidth,
)

MOST_WIDTH = 16
MOST_SMALL_WIDTH = 6
MOST_VECTORS = 64
MOST_MASKS = 16
MOST_IN_GROUP = 64
MOST_GROUPS = 20
MOST_LETTERS = 8
LETTERS = "abcdefghijklmnopqrstuvwxyz"


def is_int(value):
    # Python counts True and False among the ints, the document does not.
    return isinstance(value, int) and not isinstance(value, bool)


def is_width(value):
    return is_int(value) and 1 <= value <= MOST_WIDTH


def is_address(width, value):
    return is_int(value) and 0 <= value < (1 << width)


def are_addresses(width, value, most):
    """Whether any value is a tuple of at most so many addresses."""
    if not isinstance(value, tuple) or len(value) > most:
        return False
    return all([is_address(width, item) for item in value])


def are_masks(width, value):
    """Whether any value is a map of a width that is checked already."""
    return are_addresses(width, value, MOST_MASKS)


def are_ascending(width, value, most):
    """Whether any value is an ascending tuple of at most so many different addresses."""
    if not are_addresses(width, value, most):
        return False
    return all([one < other for one, other in zip(value, value[1:])])


def is_group_of(width, value):
    """Whether any value is a group of a width that is checked already."""
    return are_ascending(width, value, MOST_IN_GROUP) and len(value) > 0


def are_groups_of(width, value):
    """Whether any value is groups of a width that is checked already."""
    if not isinstance(value, tuple) or len(value) > MOST_GROUPS:
        return False
    return all([is_group_of(width, item) for item in value])


def are_differences_of(width, value):
    """Whether any value is differences of a width that is checked already."""
    # What ascends from 1 holds no 0 further on.
    return are_ascending(width, value, 1 << width) and value[:1] != (0,)


def is_name(value):
    """Whether any value is a string of 1 to 8 letters from a to z."""
    if not isinstance(value, str) or not 1 <= len(value) <= MOST_LETTERS:
        return False
    return all([letter in LETTERS for letter in value])


def check_width(width):
    if not is_width(width):
        raise InvalidWidth(width)


def check_small_width(width):
    if not is_width(width) or width > MOST_SMALL_WIDTH:
        raise InvalidWidth(width)


def check_vectors(width, vectors):
    if not are_addresses(width, vectors, MOST_VECTORS):
        raise InvalidVectors(vectors)


def check_map(width, masks):
    if not are_masks(width, masks):
        raise InvalidMap(masks)


def check_address(width, address):
    if not is_address(width, address):
        raise InvalidAddress(address)


def check_group(width, group):
    if not is_group_of(width, group):
        raise InvalidGroup(group)


def check_groups(width, groups):
    if not are_groups_of(width, groups):
        raise InvalidGroups(groups)


def check_differences(width, differences):
    if not are_differences_of(width, differences):
        raise InvalidDifferences(differences)


def check_bits(bits):
    if not is_int(bits) or not 0 <= bits <= MOST_MASKS:
        raise InvalidBits(bits)


def check_coefficients(coefficients):
    if not isinstance(coefficients, tuple) or len(coefficients) == 0:
        raise InvalidNumber(coefficients)
    if not all([is_int(coefficient) for coefficient in coefficients]):
        raise InvalidNumber(coefficients)
