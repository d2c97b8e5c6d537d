import copy
import itertools
import random
import unittest

from tests.support import NO_INTS, NO_WIDTHS, Case, least_basis, no_addresses, no_vectors, odd, spanned
from xorbanks.errors import InvalidAddress, InvalidNumber, InvalidVectors, InvalidWidth, TooMany
from xorbanks.vectors import annihilator, basis, is_in_span, parity, rank, span

OF_VECTORS = (rank, basis, span, annihilator)
UNITS = tuple(1 << bit for bit in range(16))


def small_cases():
    """All vectors of the widths 1 to 3, up to four of them."""
    for width in (1, 2, 3):
        for size in range(5 if width < 3 else 4):
            for vectors in itertools.product(range(1 << width), repeat=size):
                yield width, vectors


def sampled_cases():
    """Vectors of greater widths, the same in each run."""
    chance = random.Random(5)
    for width in (4, 5, 7, 8, 10):
        for size in (1, 2, 3, width - 1, width, width + 1, 20, 64):
            yield width, tuple(chance.randrange(1 << width) for _ in range(size))
            # Vectors of a thin space, so that many of them depend on others.
            few = [chance.randrange(1 << width) for _ in range(3)]
            yield width, tuple(few[chance.randrange(3)] ^ few[chance.randrange(3)] for _ in range(size))


class Document(Case):
    def test_example(self):
        self.same(
            [parity(7), rank(4, (3, 5, 6)), basis(4, (3, 5, 6)), is_in_span(4, (3, 5), 6),
             span(4, (12, 4)), annihilator(3, (1, 6))],
            [1, 2, (3, 5), True, (0, 4, 8, 12), (6,)])


class Parity(Case):
    def test_small_numbers(self):
        for number in range(5000):
            self.same(parity(number), odd(number))

    def test_zero(self):
        self.same(parity(0), 0)

    def test_very_great_numbers(self):
        for power in (31, 32, 63, 64, 65, 1000, 20000, 100001):
            self.same(parity(1 << power), 1)
            self.same(parity((1 << power) + 1), 0)
            self.same(parity((1 << power) - 1), power % 2)
        self.same(parity(10 ** 6000), odd(10 ** 6000))

    def test_by_name(self):
        self.same(parity(number=11), 1)

    def test_wrong_numbers(self):
        for number in (-1, -2, -3, -(1 << 64), -10 ** 6000) + NO_INTS:
            self.fails_with(InvalidNumber, number, parity, number)


class AgainstTheDefinitions(Case):
    def check(self, width, vectors):
        space = spanned(vectors)
        self.same(span(width, vectors), tuple(sorted(space)))
        self.same(basis(width, vectors), least_basis(space))
        self.same(rank(width, vectors), len(space).bit_length() - 1)
        for address in range(1 << width):
            self.same(is_in_span(width, vectors, address), address in space)
        masks = {m for m in range(1 << width) if all(odd(m & v) == 0 for v in vectors)}
        self.same(annihilator(width, vectors), least_basis(masks))

    def test_small_widths(self):
        for width, vectors in small_cases():
            self.check(width, vectors)

    def test_sampled(self):
        for width, vectors in sampled_cases():
            self.check(width, vectors)

    def test_order_and_duplicates_do_not_matter(self):
        for vectors in itertools.permutations((9, 12, 5, 6, 0)):
            self.same(basis(4, vectors), basis(4, (5, 6, 9, 12)))
            self.same(span(4, vectors + vectors), span(4, (5, 6, 9, 12)))
            self.same(annihilator(4, vectors + (0, 9, 9)), (15,))


class Edges(Case):
    def test_no_vectors(self):
        for width in range(1, 17):
            self.same(rank(width, ()), 0)
            self.same(basis(width, ()), ())
            self.same(span(width, ()), (0,))
            self.same(annihilator(width, ()), UNITS[:width])
            self.same(is_in_span(width, (), 0), True)
            self.same(is_in_span(width, (), 1), False)

    def test_zero_alone(self):
        for vectors in ((0,), (0, 0), (0,) * 64):
            self.same([rank(5, vectors), basis(5, vectors), span(5, vectors)], [0, (), (0,)])
            self.same(annihilator(5, vectors), (1, 2, 4, 8, 16))

    def test_all_of_a_width(self):
        for width in range(1, 17):
            units = UNITS[:width]
            self.same(basis(width, units[::-1]), units)
            self.same(rank(width, units), width)
            self.same(annihilator(width, units), ())

    def test_width_one(self):
        self.same([span(1, (1, 1)), basis(1, (1, 0)), annihilator(1, (1,))], [(0, 1), (1,), ()])

    def test_width_sixteen(self):
        top = 65535
        self.same([rank(16, (top,)), basis(16, (top, 1)), span(16, (top,))], [1, (1, 65534), (0, top)])
        self.same(is_in_span(16, (top, 1), 65534), True)
        self.same(is_in_span(16, (top, 1), 2), False)
        self.same(annihilator(16, (top,)), tuple((1 << bit) + 1 for bit in range(1, 16)))

    def test_greatest_address_and_the_one_above(self):
        for width in range(1, 17):
            top = (1 << width) - 1
            self.same(basis(width, (top,)), (top,))
            self.same(is_in_span(width, (top,), top), True)
            above = top + 1
            for function in OF_VECTORS:
                self.fails(InvalidVectors, function, width, (above,))
            self.fails(InvalidVectors, is_in_span, width, (above,), 0)
            self.fails_with(InvalidAddress, above, is_in_span, width, (top,), above)

    def test_64_and_65_vectors(self):
        many = tuple(range(64))
        self.same(rank(16, many), 6)
        self.same(basis(16, many), UNITS[:6])
        self.same(span(16, many), many)
        self.same(annihilator(16, many), UNITS[6:])
        self.same(is_in_span(16, many, 63), True)
        more = tuple(range(65))
        for function in OF_VECTORS:
            self.fails_with(InvalidVectors, more, function, 16, more)
        self.fails_with(InvalidVectors, more, is_in_span, 16, more, 0)

    def test_wide_annihilators(self):
        chance = random.Random(6)
        for size in (1, 5, 8, 15, 16, 17, 64):
            vectors = tuple(chance.randrange(1 << 16) for _ in range(size))
            masks = annihilator(16, vectors)
            self.same(len(masks), 16 - rank(16, vectors))
            self.same(basis(16, masks), masks)
            self.assertFalse(any(odd(mask & vector) for mask in masks for vector in vectors))
            self.same(annihilator(16, masks), basis(16, vectors))


class SpanLimit(Case):
    def test_1024_may_be_returned(self):
        self.same(span(10, UNITS[:10]), tuple(range(1024)))
        self.same(span(16, UNITS[6:] + UNITS[6:]), tuple(range(0, 65536, 64)))
        thin = tuple(3 << bit for bit in range(10))
        self.same(span(16, thin), tuple(sorted(spanned(thin))))

    def test_more_are_too_many(self):
        for vectors in (UNITS[:11], UNITS, UNITS[::-1], tuple(3 << bit for bit in range(11)), (0,) + UNITS[5:]):
            self.same(self.fails(TooMany, span, 16, vectors).value, 1024)
        self.same(self.fails(TooMany, span, 11, UNITS[:11]).value, 1024)

    def test_other_functions_have_no_limit(self):
        self.same(rank(16, UNITS), 16)
        self.same(is_in_span(16, UNITS, 65535), True)


class WrongInputs(Case):
    def test_width(self):
        for width in NO_WIDTHS:
            for function in OF_VECTORS:
                self.fails_with(InvalidWidth, width, function, width, ())
                self.fails_with(InvalidWidth, width, function, width=width, vectors=(1,))
            self.fails_with(InvalidWidth, width, is_in_span, width, (), 0)

    def test_vectors(self):
        for width in (1, 4, 16):
            for vectors in no_vectors(width, 64):
                for function in OF_VECTORS:
                    self.fails_with(InvalidVectors, vectors, function, width, vectors)
                self.fails_with(InvalidVectors, vectors, is_in_span, width, vectors, 0)

    def test_address(self):
        for width in (1, 4, 16):
            for address in no_addresses(width):
                self.fails_with(InvalidAddress, address, is_in_span, width, (1, 0), address)

    def test_which_of_several_errors(self):
        wrong = [1, 2]
        for width in NO_WIDTHS:
            for function in OF_VECTORS:
                self.fails_with(InvalidWidth, width, function, width, wrong)
            self.fails_with(InvalidWidth, width, is_in_span, width, wrong, None)
            self.fails_with(InvalidWidth, width, is_in_span, address=-1, vectors=wrong, width=width)
        self.fails_with(InvalidVectors, wrong, is_in_span, 4, wrong, None)
        self.fails_with(InvalidVectors, wrong, is_in_span, address=None, vectors=wrong, width=4)
        long = UNITS + (65536,)
        self.fails_with(InvalidVectors, long, span, 16, long)
        self.fails_with(InvalidWidth, 17, span, 17, UNITS)
        self.fails_with(InvalidVectors, UNITS, span, 15, UNITS)


class Calls(Case):
    def test_by_name(self):
        self.same(rank(vectors=(3, 5, 6), width=4), 2)
        self.same(basis(vectors=(3, 5, 6), width=4), (3, 5))
        self.same(span(4, vectors=(12, 4)), (0, 4, 8, 12))
        self.same(annihilator(vectors=(1, 6), width=3), (6,))
        self.same(is_in_span(address=6, vectors=(3, 5), width=4), True)

    def test_equal_calls_and_unchanged_arguments(self):
        vectors = (9, 0, 12, 5, 5)
        kept = copy.deepcopy(vectors)
        for function in OF_VECTORS:
            self.same(function(4, vectors), function(4, tuple(list(vectors))))
            self.same(vectors, kept)


if __name__ == "__main__":
    unittest.main()
