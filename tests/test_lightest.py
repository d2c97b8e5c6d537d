import itertools
import random
import unittest

from tests.support import (
    NO_BITS, NO_SMALL_WIDTHS, Case, all_differences, all_maps, differences_for, kernel_set, no_differences, no_vectors)
from xorbanks.errors import InvalidBits, InvalidDifferences, InvalidMap, InvalidWidth
from xorbanks.lightest import least_weight, lightened, lightest_map, weight

OF_TILE = (1, 2, 3, 4, 8, 12)
LINES = (1, 2, 3)
# The most masks for which all maps of a width are gone through.
MOST = {1: 5, 2: 5, 3: 4, 4: 3}


def weight_by_hand(masks):
    return sum(bin(mask).count("1") for mask in masks)


def least_weights(width, bits):
    """The least weight of the maps with so many masks for each kernel, from all maps one by one."""
    found = {}
    for masks in all_maps(width, bits):
        kernel = kernel_set(width, masks)
        found[kernel] = min(weight_by_hand(masks), found.get(kernel, 100))
    return found


class Document(Case):
    def test_example(self):
        self.same(
            [weight(4, (5, 10)), weight(3, lightened(3, (7, 6, 3))), least_weight(4, OF_TILE, 2),
             least_weight(2, LINES, 1), lightest_map(2, (), 1)],
            [4, 3, 4, None, (0,)])


class Weight(Case):
    def test_all_maps(self):
        for width, most in MOST.items():
            for bits in range(min(most, 3) + 1):
                for masks in all_maps(width, bits):
                    self.same(weight(width, masks), weight_by_hand(masks))

    def test_edges(self):
        for width in range(1, 7):
            top = (1 << width) - 1
            self.same(weight(width, ()), 0)
            self.same(weight(width, (0,) * 16), 0)
            self.same(weight(width, (top,) * 16), 16 * width)
            self.same(weight(width, (0, top, 1)), width + 1)


class MadeMaps(Case):
    def is_a_map(self, width, masks, bits):
        self.assertIsInstance(masks, tuple)
        self.same(len(masks), bits)
        for mask in masks:
            self.same(mask.__class__, int)
            self.assertIn(mask, range(1 << width))


class Lightened(MadeMaps):
    def test_beside_all_maps(self):
        for width, most in MOST.items():
            for bits in range(most + 1):
                least = least_weights(width, bits)
                for masks in all_maps(width, bits):
                    lighter = lightened(width, masks)
                    self.is_a_map(width, lighter, bits)
                    kernel = kernel_set(width, masks)
                    self.assertEqual(kernel_set(width, lighter), kernel)
                    self.same(weight_by_hand(lighter), least[kernel])

    def test_beside_all_bases(self):
        # All bases of the span of the masks, beside which masks of 0 are the lightest ones.
        chance = random.Random(41)
        for width in (5, 6):
            for _ in range(12):
                masks = tuple(chance.randrange(1 << width) for _ in range(3)) * chance.choice((1, 5))
                lighter = lightened(width, masks)
                self.is_a_map(width, lighter, len(masks))
                kernel = kernel_set(width, masks)
                self.assertEqual(kernel_set(width, lighter), kernel)
                for others in itertools.combinations({a ^ b ^ c for a in masks for b in masks for c in masks}, 3):
                    if kernel_set(width, others) == kernel:
                        self.assertLessEqual(weight_by_hand(lighter), weight_by_hand(others))

    def test_edges(self):
        for width in range(1, 7):
            top = (1 << width) - 1
            self.same(lightened(width, ()), ())
            self.same(lightened(width, (0,) * 16), (0,) * 16)
            self.same(sorted(lightened(width, (top,) * 16)), [0] * 15 + [top])
            self.same(sorted(lightened(width, (top, 0))), [0, top])
            every = [1 << bit for bit in range(width)]
            self.same(sorted(lightened(width, tuple((2 << bit) - 1 for bit in range(width)))), every)
            self.same(sorted(lightened(width, (top,) * (16 - width) + tuple(every))), [0] * (16 - width) + every)

    def test_the_parity_of_two_bits(self):
        self.same(sorted(lightened(6, (63, 60, 48))), [3, 12, 48])


class LightestMap(MadeMaps):
    def check(self, width, differences, bits, least):
        masks = lightest_map(width, differences, bits)
        self.same(least_weight(width, differences, bits), least)
        if least is None:
            self.same(masks, None)
        else:
            self.is_a_map(width, masks, bits)
            self.assertTrue(kernel_set(width, masks).isdisjoint(differences))
            self.same(weight_by_hand(masks), least)

    def test_beside_all_maps(self):
        for width, most in MOST.items():
            chosen = list(all_differences(width) if width < 4 else differences_for(width))
            for bits in range(most + 1):
                least = least_weights(width, bits)
                for differences in chosen:
                    free = [light for kernel, light in least.items() if kernel.isdisjoint(differences)]
                    self.check(width, differences, bits, min(free, default=None))

    def test_great_widths_beside_all_maps_of_two_masks(self):
        chance = random.Random(42)
        for width in (5, 6):
            least = [least_weights(width, bits) for bits in range(3 if width == 5 else 2)]
            for size in (0, 1, 2, 3, 5, 9):
                differences = tuple(sorted(chance.sample(range(1, 1 << width), size)))
                for bits, found in enumerate(least):
                    free = [light for kernel, light in found.items() if kernel.isdisjoint(differences)]
                    self.check(width, differences, bits, min(free, default=None))

    def test_more_masks_may_be_lighter(self):
        self.check(3, (1, 2, 4), 1, 3)
        self.check(4, (1, 2, 3, 4, 8, 12), 1, None)
        self.check(4, (1, 2, 3, 4, 8, 12), 16, 4)
        self.check(6, (1, 2, 4, 8, 16, 32), 1, 6)
        self.check(3, (3, 5, 6), 2, 2)
        self.check(3, (1, 2, 3, 5, 6, 7), 2, 2)
        self.check(3, (1, 2, 3, 4, 5, 6, 7), 3, 3)
        # With two masks these need 4 one bits, three single bits do as well.
        self.check(3, (1, 2, 3, 4, 5, 6), 2, 4)
        self.check(3, (1, 2, 3, 4, 5, 6), 3, 3)

    def test_edges(self):
        for width in range(1, 7):
            every = tuple(range(1, 1 << width))
            for bits in (0, 1, width, 16):
                self.check(width, (), bits, 0)
                self.check(width, every, bits, width if bits >= width else None)
                self.check(width, every[-1:], bits, 1 if bits else None)
        self.same(lightest_map(6, (), 16), (0,) * 16)
        self.same(lightest_map(6, (), 0), ())
        self.same(lightest_map(1, (1,), 0), None)

    def test_equal_calls(self):
        for bits in (2, 3, 16):
            self.same(lightest_map(4, OF_TILE, bits), lightest_map(4, OF_TILE, bits))


class WrongInputs(Case):
    def test_of_maps(self):
        for width in (1, 6):
            for function in (weight, lightened):
                self.refuses(
                    function, ("width", width, InvalidWidth, NO_SMALL_WIDTHS),
                    ("masks", (1, 0), InvalidMap, no_vectors(width, 16)))

    def test_of_differences(self):
        for width in (1, 6):
            for function in (least_weight, lightest_map):
                self.refuses(
                    function, ("width", width, InvalidWidth, NO_SMALL_WIDTHS),
                    ("differences", (1,), InvalidDifferences, no_differences(width)), ("bits", 1, InvalidBits, NO_BITS))

    def test_by_name(self):
        self.same(weight(masks=(5, 10), width=4), 4)
        self.same(lightened(masks=(3, 2), width=2), (1, 2))
        self.same(least_weight(bits=2, differences=OF_TILE, width=4), 4)
        self.same(lightest_map(bits=1, differences=(), width=2), (0,))


if __name__ == "__main__":
    unittest.main()
