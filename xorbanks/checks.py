"""What an int, a width, an address, vectors and a map are, and the common errors."""

from xorbanks.errors import InvalidAddress, InvalidMap, InvalidVectors, InvalidWidth

MOST_WIDTH = 16
MOST_VECTORS = 64
MOST_MASKS = 16


def is_int(value):
    # Python counts True and False among the ints, the document does not.
    return isinstance(value, int) and not isinstance(value, bool)


def is_address(width, value):
    return is_int(value) and 0 <= value < (1 << width)


def are_addresses(width, value, most):
    """Whether any value is a tuple of at most so many addresses."""
    if not isinstance(value, tuple) or len(value) > most:
        return False
    return all([is_address(width, item) for item in value])


def are_masks(width, value):
    """Whether any value is a map of a width that is checked already."""
    return are_addresses(width, value, MOST_MASKS)


def check_width(width):
    if not is_int(width) or not 1 <= width <= MOST_WIDTH:
        raise InvalidWidth(width)


def check_vectors(width, vectors):
    if not are_addresses(width, vectors, MOST_VECTORS):
        raise InvalidVectors(vectors)


def check_map(width, masks):
    if not are_masks(width, masks):
        raise InvalidMap(masks)


def check_address(width, address):
    if not is_address(width, address):
        raise InvalidAddress(address)
