"""Block patterns, given by vectors, and maps that are free for several of them."""

from xorbanks.checks import check_map, check_vectors, check_width
from xorbanks.maps import bank_of
from xorbanks.vectors import independent, orthogonal, powers, reduced


def check_two(width, one, other):
    check_width(width)
    check_vectors(width, one)
    check_vectors(width, other)


def common(width, one, other):
    """Return the basis of the space of the elements that are in both spans."""
    # An element is in a span exactly if all masks of the annihilator give it parity 0.
    return orthogonal(width, orthogonal(width, one) + orthogonal(width, other))


def degree_in_blocks(masks, vectors):
    """Return how many addresses of a block have the same bank: as many for each bank that occurs."""
    rows = reduced(vectors)
    banks = reduced([bank_of(masks, row) for row in rows])
    return 1 << (len(rows) - len(banks))


def shared_map(width, one, other):
    """Return a map that is free for two block patterns, with as many masks as the greater one of their ranks."""
    check_two(width, one, other)
    both = common(width, one, other)
    outside = independent(reduced(one + other), powers(width))
    of_one = independent(both, reduced(one))
    of_other = independent(both, reduced(other))
    # An XOR of a vector of one span alone and a vector of the other span alone is in neither span. As many
    # such pairs as there are make, with what is outside of both spans, the greatest kernel that will do.
    across = [first ^ second for first, second in zip(of_one, of_other)]
    return orthogonal(width, outside + tuple(across))


def meet(width, one, other):
    """Return the basis of the space of the elements that are in both spans."""
    check_two(width, one, other)
    return common(width, one, other)


def sum_basis(width, one, other):
    """Return the basis of the span of all vectors of both."""
    check_two(width, one, other)
    return reduced(one + other)


def block_degree(width, masks, vectors):
    """Return the degree of the map in each block of the pattern."""
    check_width(width)
    check_map(width, masks)
    check_vectors(width, vectors)
    return degree_in_blocks(masks, vectors)


def is_shared(width, masks, *patterns):
    """Return whether the map is free for all of the block patterns."""
    check_width(width)
    check_map(width, masks)
    for vectors in patterns:
        check_vectors(width, vectors)
    return all([degree_in_blocks(masks, vectors) == 1 for vectors in patterns])
