import itertools
import random
import unittest

from tests.support import (
    NO_BITS, NO_SMALL_WIDTHS, Case, all_differences, all_maps, by_kernel, differences_for, kernel_set, no_differences,
    no_vectors)
from xorbanks.counting import count_maps, least_bits
from xorbanks.errors import InvalidBits, InvalidDifferences, InvalidMap, InvalidWidth, TooMany
from xorbanks.extending import count_extensions, extended, further_bits, useless

LINES = (1, 2, 3)
OF_DIFFERENCES = (further_bits, extended, useless)


def fixed_maps(width):
    """Maps of up to two masks, all of them for a small width, and some longer ones."""
    chance = random.Random(21 + width)
    maps = [masks for bits in range(3) for masks in all_maps(width, bits)]
    if width > 3:
        maps = chance.sample(maps, 12) + [()]
    for size in (3, 5, 15, 16):
        maps.append(tuple(chance.randrange(1 << width) for _ in range(size)))
    return maps + [(0,) * 16, (1,) * 16, ((1 << width) - 1, 0) * 8]


def questions(width):
    """Fixed masks with their kernel, and differences."""
    chosen = list(differences_for(width))
    for masks in fixed_maps(width):
        kernel = kernel_set(width, masks)
        for differences in chosen if width < 4 else chosen[::5]:
            yield masks, kernel, differences


class Document(Case):
    def test_example(self):
        self.same(
            [further_bits(4, (1,), (1, 2, 3, 4, 8, 12)), count_extensions(2, (1,), LINES, 1),
             useless(2, (1, 2, 3), LINES), useless(2, (1, 2), LINES)],
            [2, 2, (0, 1, 2), ()])


class AgainstAllWaysToAdd(Case):
    def check(self, width, most):
        added = [by_kernel(width, bits) for bits in range(most + 1)]
        for masks, kernel, differences in questions(width):
            free = [
                sum(count for other, count in counts.items() if (kernel & other).isdisjoint(differences))
                for counts in added]
            for bits, count in enumerate(free):
                self.same(count_extensions(width, masks, differences, bits), count)
            needed = [bits for bits, count in enumerate(free) if count]
            if needed:
                self.same(further_bits(width, masks, differences), needed[0])
            else:
                self.assertGreater(further_bits(width, masks, differences), most)

    def test_width_1(self):
        self.check(1, 6)

    def test_width_2(self):
        self.check(2, 5)

    def test_width_3(self):
        self.check(3, 4)

    def test_width_4(self):
        self.check(4, 4)

    def test_one_by_one(self):
        # The sum over kernels above is a shortcut; here each way to add masks is looked at by itself.
        for width, most in ((1, 3), (2, 2)):
            for size in range(3):
                for masks in itertools.chain(all_maps(width, size), [(1,) * 15, (0,) * 16, (1, 0) * 8]):
                    for differences in all_differences(width):
                        for bits in range(most + 1):
                            ways = sum(
                                kernel_set(width, masks + more).isdisjoint(differences)
                                for more in all_maps(width, bits))
                            self.same(count_extensions(width, masks, differences, bits), ways)


class Extended(Case):
    def check(self, width, masks, differences):
        needed = further_bits(width, masks, differences)
        if len(masks) + needed > 16:
            self.same(self.fails(TooMany, extended, width, masks, differences).value, 16)
            return False
        longer = extended(width, masks, differences)
        self.assertIsInstance(longer, tuple)
        self.same(longer[:len(masks)], masks)
        self.same(len(longer), len(masks) + needed)
        for mask in longer:
            self.same(mask.__class__, int)
            self.assertIn(mask, range(1 << width))
        self.assertTrue(kernel_set(width, longer).isdisjoint(differences))
        return True

    def test_all_ordinary(self):
        for width in range(1, 7):
            made = [self.check(width, masks, differences) for masks, _, differences in questions(width)]
            self.assertIn(True, made)
            self.assertIn(False, made)

    def test_16_masks_at_most(self):
        every = tuple(range(1, 64))
        self.same(self.check(6, (0,) * 10, every), True)
        self.same(self.check(6, (0,) * 11, every), False)
        self.same(self.check(6, (1,) * 11, every), True)
        self.same(self.check(6, (1,) * 12, every), False)
        self.same(extended(1, (0,) * 15, (1,)), (0,) * 15 + (1,))
        self.same(self.fails(TooMany, extended, 1, (0,) * 16, (1,)).value, 16)
        self.same(extended(1, (0,) * 16, ()), (0,) * 16)
        self.same(extended(2, (2,) * 16, (2,)), (2,) * 16)

    def test_equal_calls(self):
        for masks in ((), (9,), (3, 5, 6)):
            self.same(extended(4, masks, tuple(range(1, 16))), extended(4, masks, tuple(range(1, 16))))


class Useless(Case):
    def test_against_the_definition(self):
        for width in range(1, 7):
            for masks, kernel, differences in questions(width):
                many = len(kernel.intersection(differences))
                expected = []
                for index in range(len(masks)):
                    rest = kernel_set(width, masks[:index] + masks[index + 1:])
                    if len(rest.intersection(differences)) == many:
                        expected.append(index)
                self.same(useless(width, masks, differences), tuple(expected))

    def test_edges(self):
        for width in (1, 6):
            every = tuple(range(1, 1 << width))
            self.same(useless(width, (), every), ())
            self.same(useless(width, (1,), ()), (0,))
            self.same(useless(width, (0, 1, 0), every), (0, 2))
            self.same(useless(width, (1, 1), every), (0, 1))
            self.same(useless(width, (1,) * 16, every), tuple(range(16)))
            self.same(useless(width, (1,), (1,)), ())
        self.same(useless(6, (1, 2, 4, 8, 16, 32), tuple(range(1, 64))), ())
        # Without a mask other differences are hidden, but not fewer.
        self.same(useless(2, (3, 1), (1, 2)), (1,))


class Edges(Case):
    def test_empty_map(self):
        for width in range(1, 7):
            for differences in ((), (1,), tuple(range(1, 1 << width))):
                self.same(further_bits(width, (), differences), least_bits(width, differences))
                for bits in range(17):
                    self.same(count_extensions(width, (), differences, bits), count_maps(width, differences, bits))

    def test_no_differences(self):
        for width in range(1, 7):
            for masks in ((), (1,), (0,) * 16):
                self.same(further_bits(width, masks, ()), 0)
                self.same(extended(width, masks, ()), masks)
                for bits in range(17):
                    self.same(count_extensions(width, masks, (), bits), 2 ** (width * bits))

    def test_a_kernel_of_dimension_0(self):
        for width in range(1, 7):
            masks = tuple(1 << bit for bit in range(width))
            every = tuple(range(1, 1 << width))
            self.same(further_bits(width, masks, every), 0)
            self.same(extended(width, masks, every), masks)
            for bits in (0, 1, 16):
                self.same(count_extensions(width, masks, every, bits), 2 ** (width * bits))

    def test_beyond_16_masks(self):
        for width in (1, 6):
            every = tuple(range(1, 1 << width))
            for bits in range(17):
                self.same(
                    count_extensions(width, (0,) * 16, every, bits), count_maps(width, every, bits))
        self.same(further_bits(6, (0,) * 16, tuple(range(1, 64))), 6)
        # In the kernel of mask 1 bit 0 is 0, so each of the added masks may have it or not.
        count = 1
        for index in range(5):
            count *= 65536 - 2 ** index
        self.same(count_extensions(6, (1,) * 16, tuple(range(1, 64)), 16), count * 65536)


class WrongInputs(Case):
    def question(self, width):
        return (
            ("width", width, InvalidWidth, NO_SMALL_WIDTHS), ("masks", (1, 0), InvalidMap, no_vectors(width, 16)),
            ("differences", (1,), InvalidDifferences, no_differences(width)))

    def test_of_differences(self):
        for width in (1, 6):
            for function in OF_DIFFERENCES:
                self.refuses(function, *self.question(width))

    def test_count_extensions(self):
        for width in (1, 6):
            self.refuses(count_extensions, *self.question(width), ("bits", 2, InvalidBits, NO_BITS))

    def test_errors_ahead_of_too_many(self):
        self.fails_with(InvalidDifferences, 5, extended, 1, (0,) * 16, 5)

    def test_by_name(self):
        self.same(further_bits(differences=(1, 2, 3, 4, 8, 12), masks=(1,), width=4), 2)
        self.same(count_extensions(bits=1, differences=LINES, masks=(1,), width=2), 2)
        self.same(useless(differences=LINES, masks=(1, 2, 3), width=2), (0, 1, 2))
        self.same(extended(differences=(1,), masks=(1, 0), width=1), (1, 0))


if __name__ == "__main__":
    unittest.main()
