import itertools
import random
import unittest

from tests.support import (
    NO_BITS, NO_INTS, NO_SMALL_WIDTHS, NO_TUPLES, Case, all_differences, by_kernel, differences_for, no_addresses,
    no_differences, sampled_differences, spanned)
from xorbanks.counting import contracted, count_maps, kernel_counts, least_bits, polynomial, value_at
from xorbanks.errors import InvalidAddress, InvalidBits, InvalidDifferences, InvalidNumber, InvalidWidth, NotIncluded

LINES = (1, 2, 3)
OF_TILE = (1, 2, 3, 4, 8, 12)
OF_DIFFERENCES = (polynomial, least_bits, kernel_counts)


def all_spaces(width):
    """All spaces, by adding addresses to smaller ones."""
    found = {frozenset([0])}
    fresh = found
    while fresh:
        fresh = {space | {a ^ one for one in space} for space in fresh for a in range(1 << width)} - found
        found = found | fresh
    return found


def evaluated(coefficients, number):
    return sum(coefficient * number ** power for power, coefficient in enumerate(coefficients))


class Document(Case):
    def test_first_example(self):
        self.same(
            [polynomial(2, LINES), polynomial(4, OF_TILE), value_at((4, -12, 13, -6, 1), 4),
             count_maps(4, OF_TILE, 2)],
            [(2, -3, 1), (4, -12, 13, -6, 1), 36, 36])

    def test_second_example(self):
        self.same(
            [least_bits(2, LINES), kernel_counts(4, OF_TILE), contracted(4, OF_TILE, 12), polynomial(3, ())],
            [2, (0, 0, 6, 9, 1), (1, 2, 3, 4), (0, 0, 0, 1)])


class AgainstAllMaps(Case):
    def check(self, width, most):
        maps = [by_kernel(width, bits) for bits in range(most + 1)]
        for differences in differences_for(width):
            free = [
                sum(count for kernel, count in counts.items() if kernel.isdisjoint(differences)) for counts in maps]
            coefficients = polynomial(width, differences)
            self.same(len(coefficients), width + 1)
            for bits, count in enumerate(free):
                self.same(evaluated(coefficients, 2 ** bits), count)
                self.same(value_at(coefficients, 2 ** bits), count)
                self.same(count_maps(width, differences, bits), count)
            least = [bits for bits, count in enumerate(free) if count]
            if least:
                self.same(least_bits(width, differences), least[0])
            else:
                self.assertGreater(least_bits(width, differences), most)

    def test_width_1(self):
        self.check(1, 8)

    def test_width_2(self):
        self.check(2, 6)

    def test_width_3(self):
        self.check(3, 4)

    def test_width_4(self):
        self.check(4, 4)


class AgainstAllSpaces(Case):
    def test_kernel_counts(self):
        for width in (1, 2, 3, 4, 5, 6):
            spaces = [(len(space).bit_length() - 1, space) for space in all_spaces(width)]
            for differences in differences_for(width):
                expected = [0] * (width + 1)
                for dimension, space in spaces:
                    if space.isdisjoint(differences):
                        expected[width - dimension] += 1
                self.same(kernel_counts(width, differences), tuple(expected))


class AgainstAllSubsets(Case):
    def check(self, width, differences):
        expected = [0] * (width + 1)
        for size in range(len(differences) + 1):
            for subset in itertools.combinations(differences, size):
                rank = len(spanned(subset)).bit_length() - 1
                expected[width - rank] += (-1) ** size
        self.same(polynomial(width, differences), tuple(expected))

    def test_small_widths(self):
        for width in (1, 2, 3):
            for differences in all_differences(width):
                self.check(width, differences)

    def test_sampled(self):
        for width in (4, 5, 6):
            for differences in sampled_differences(width, 8):
                self.check(width, differences)


class Contracted(Case):
    def by_hand(self, differences, address):
        bit = address.bit_length() - 1
        moved = {d ^ address if d >> bit & 1 else d for d in differences if d != address}
        return tuple(sorted({(d >> bit + 1 << bit) | (d & (1 << bit) - 1) for d in moved}))

    def test_definition_and_polynomials(self):
        for width in (2, 3, 4, 5, 6):
            for differences in differences_for(width):
                whole = polynomial(width, differences)
                for address in differences if width < 5 else differences[::7]:
                    rest = contracted(width, differences, address)
                    self.same(rest, self.by_hand(differences, address))
                    others = polynomial(width, tuple(d for d in differences if d != address))
                    less = polynomial(width - 1, rest) + (0,)
                    self.same(whole, tuple(one - other for one, other in zip(others, less)))

    def test_edges(self):
        self.same(contracted(2, (3,), 3), ())
        self.same(contracted(2, LINES, 1), (1,))
        self.same(contracted(6, tuple(range(1, 64)), 63), tuple(range(1, 32)))
        self.same(contracted(6, tuple(range(1, 64)), 1), tuple(range(1, 32)))
        self.same(contracted(6, (1, 2, 63), 1), (1, 31))
        self.same(contracted(6, (1, 2, 63), 63), (1, 2))

    def test_not_included(self):
        for width in (1, 2, 6):
            for address in range(1 << width):
                others = tuple(d for d in range(1, 1 << width) if d != address)
                self.fails_with(NotIncluded, address, contracted, width, others, address)
                self.fails_with(NotIncluded, address, contracted, width, (), address)

    def test_width_1(self):
        self.fails_with(InvalidWidth, 1, contracted, 1, (1,), 1)
        self.fails_with(InvalidWidth, 1, contracted, address=1, differences=(1,), width=1)

    def test_by_name(self):
        self.same(contracted(address=12, differences=OF_TILE, width=4), (1, 2, 3, 4))

    def test_wrong_inputs(self):
        for width in (1, 2, 6):
            self.refuses(
                contracted, ("width", width, InvalidWidth, NO_SMALL_WIDTHS),
                ("differences", (1,), InvalidDifferences, no_differences(width)),
                ("address", 1, InvalidAddress, no_addresses(width)))


class Edges(Case):
    def test_no_differences(self):
        for width in range(1, 7):
            self.same(polynomial(width, ()), (0,) * width + (1,))
            self.same(least_bits(width, ()), 0)
            for bits in range(17):
                self.same(count_maps(width, (), bits), 2 ** (width * bits))
        self.same(kernel_counts(1, ()), (1, 1))
        self.same(kernel_counts(6, ()), (1, 63, 651, 1395, 651, 63, 1))

    def test_all_differences(self):
        for width in range(1, 7):
            every = tuple(range(1, 1 << width))
            self.same(kernel_counts(width, every), (0,) * width + (1,))
            self.same(least_bits(width, every), width)
            for bits in range(17):
                count = 1
                for index in range(width):
                    count *= 2 ** bits - 2 ** index
                self.same(count_maps(width, every, bits), count)
        self.same(polynomial(1, (1,)), (-1, 1))

    def test_units(self):
        for width in range(1, 7):
            units = tuple(1 << bit for bit in range(width))
            for bits in range(17):
                self.same(count_maps(width, units, bits), (2 ** bits - 1) ** width)
            self.same(least_bits(width, units), 1)

    def test_0_and_16_bits(self):
        for width in (1, 6):
            top = (1 << width) - 1
            self.same(count_maps(width, (top,), 0), 0)
            self.same(count_maps(width, (), 0), 1)
            self.same(count_maps(width, (top,), 16), 65536 ** width - 65536 ** (width - 1))


class ValueAt(Case):
    def test_values(self):
        chance = random.Random(16)
        for size in (1, 2, 3, 7, 30):
            coefficients = tuple(chance.randrange(-50, 50) for _ in range(size))
            for number in (0, 1, -1, 2, -2, 10, -17, 2 ** 64, -10 ** 20):
                self.same(value_at(coefficients, number), evaluated(coefficients, number))

    def test_by_hand(self):
        self.same(value_at((7,), 99), 7)
        self.same(value_at((7, 1), 0), 7)
        self.same(value_at((0, 0, 0), 5), 0)
        self.same(value_at((1, 2, 3), 10), 321)
        self.same(value_at((1, 2, 3), -10), 281)
        self.same(value_at((10 ** 50, 1), 10 ** 60), 10 ** 60 + 10 ** 50)

    def test_by_name(self):
        self.same(value_at(number=4, coefficients=(4, -12, 13, -6, 1)), 36)

    def test_wrong_inputs(self):
        wrong = list(NO_TUPLES) + [(), [1], ((1,),), ([1],)]
        for item in NO_INTS:
            wrong += [(item,), (1, item), (item, 1)]
        self.refuses(value_at, ("coefficients", (1, 2), InvalidNumber, wrong), ("number", 3, InvalidNumber, NO_INTS))


class WrongInputs(Case):
    def test_of_differences(self):
        for width in (1, 6):
            for function in OF_DIFFERENCES:
                self.refuses(
                    function, ("width", width, InvalidWidth, NO_SMALL_WIDTHS),
                    ("differences", (1,), InvalidDifferences, no_differences(width)))

    def test_count_maps(self):
        for width in (1, 6):
            self.refuses(
                count_maps, ("width", width, InvalidWidth, NO_SMALL_WIDTHS),
                ("differences", (1,), InvalidDifferences, no_differences(width)),
                ("bits", 2, InvalidBits, NO_BITS))

    def test_by_name(self):
        self.same(polynomial(differences=LINES, width=2), (2, -3, 1))
        self.same(count_maps(bits=2, differences=OF_TILE, width=4), 36)
        self.same(least_bits(differences=LINES, width=2), 2)
        self.same(kernel_counts(differences=OF_TILE, width=4), (0, 0, 6, 9, 1))


if __name__ == "__main__":
    unittest.main()
