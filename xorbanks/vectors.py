"""Vectors over the bits of addresses: rank, basis, span and annihilator."""

from xorbanks.checks import check_address, check_vectors, check_width, is_int
from xorbanks.errors import InvalidNumber, TooMany

MOST_SPANNED = 1024


def parity(number):
    """Return 1 if the number of one bits is odd, otherwise 0."""
    if not is_int(number) or number < 0:
        raise InvalidNumber(number)
    digits = f"{number:b}"
    return digits.count("1") & 1


def remainder(rows, vector):
    """Return the least int that a vector becomes by XOR with rows that `reduced` returned."""
    for row in rows:
        # The smaller of the two is the one without the highest bit of the row.
        vector = min(vector, vector ^ row)
    return vector


def reduced(vectors):
    """Return the basis of the span of ints from 0 that are checked already, of any width."""
    rows = []
    for vector in vectors:
        rest = remainder(rows, vector)
        if rest > 0:
            # No other row may keep the highest bit of the new one: each is then the least with its own.
            rows = [min(row, row ^ rest) for row in rows]
            rows.append(rest)
    return tuple(sorted(rows))


def combined(rows):
    """Return the XORs of all choices among independent rows, ascending."""
    made = [0]
    for row in rows:
        made = made + [row ^ one for one in made]
    return tuple(sorted(made))


def independent(known, vectors):
    """Return those of the vectors that are not in the span of what is known and the vectors ahead."""
    chosen = []
    rows = reduced(known)
    for vector in vectors:
        if remainder(rows, vector) > 0:
            chosen.append(vector)
            rows = reduced(rows + (vector,))
    return tuple(chosen)


def highest_bit(number):
    """Return the value of the highest one bit of an int from 1."""
    return 1 << (number.bit_length() - 1)


def powers(width):
    """Return the powers of two among the addresses, ascending."""
    return [1 << index for index in range(width)]


def orthogonal(width, vectors):
    """Return the annihilator of vectors that are checked already."""
    rows = reduced(vectors)
    leading = [highest_bit(row) for row in rows]
    masks = []
    for bit in powers(width):
        if bit not in leading:
            # With one free bit chosen, each row that has it needs its own leading bit for an even parity.
            masks.append(bit + sum([highest_bit(row) for row in rows if row & bit]))
    return reduced(masks)


def rank(width, vectors):
    """Return the greatest number of independent vectors among these."""
    return len(basis(width, vectors))


def basis(width, vectors):
    """Return the basis of the span."""
    check_width(width)
    check_vectors(width, vectors)
    return reduced(vectors)


def is_in_span(width, vectors, address):
    """Return whether an address is the XOR of some of the vectors."""
    check_width(width)
    check_vectors(width, vectors)
    check_address(width, address)
    return remainder(reduced(vectors), address) == 0


def span(width, vectors):
    """Return all addresses that are the XOR of some of the vectors, ascending."""
    rows = basis(width, vectors)
    if (1 << len(rows)) > MOST_SPANNED:
        raise TooMany(MOST_SPANNED)
    return combined(rows)


def annihilator(width, vectors):
    """Return the basis of the space of all masks that have parity 0 with each of the vectors."""
    check_width(width)
    check_vectors(width, vectors)
    return orthogonal(width, vectors)
