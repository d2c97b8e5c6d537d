import itertools
import random
import unittest

from tests.support import NO_WIDTHS, Case, least_basis, no_addresses, no_vectors, odd, spanned
from xorbanks.errors import Dependent, InvalidAddress, InvalidMap, InvalidWidth, NotInvertible
from xorbanks.maps import bank, bank_count, completed, inverse, is_map, joined, kernel, recoding

SWIZZLE = (5, 10)
OF_MASKS = (kernel, bank_count, completed, inverse)
UNITS = tuple(1 << bit for bit in range(16))


def bank_by_hand(masks, address):
    return sum(odd(address & mask) * 2 ** index for index, mask in enumerate(masks))


def small_maps():
    """All maps of the widths 1 to 3, up to four masks."""
    for width in (1, 2, 3):
        for size in range(5 if width < 3 else 4):
            for masks in itertools.product(range(1 << width), repeat=size):
                yield width, masks


def sampled_maps():
    """Maps of greater widths, the same in each run."""
    chance = random.Random(8)
    for width in (4, 5, 8):
        for size in (1, 2, 3, width - 1, width, width + 1, 16):
            yield width, tuple(chance.randrange(1 << width) for _ in range(size))


def independent_maps():
    """Independent masks of greater widths, fewer than the width and as many."""
    chance = random.Random(9)
    for width in (4, 6, 16):
        for size in (1, width // 2, width - 1, width):
            masks = ()
            while len(masks) < size:
                mask = chance.randrange(1 << width)
                if len(spanned(masks + (mask,))) == 2 ** (len(masks) + 1):
                    masks += (mask,)
            yield width, masks


class Document(Case):
    def test_first_example(self):
        self.same(
            [bank(4, SWIZZLE, 12), kernel(4, SWIZZLE), bank_count(4, (5, 10, 15)), joined(4, SWIZZLE, (), (1,)),
             completed(4, SWIZZLE)],
            [3, (5, 10), 4, (5, 10, 1), (5, 10, 1, 2)])

    def test_second_example(self):
        self.same(
            [recoding(4, (5, 10), (15,)), recoding(4, (5, 10), (1,)), inverse(2, (3, 2)), inverse(2, (2, 1))],
            [(3,), None, (3, 2), (2, 1)])


class IsMap(Case):
    def test_maps(self):
        for width in (1, 2, 4, 16):
            top = (1 << width) - 1
            for masks in ((), (0,), (1, 1), (top,), (top, 0, 1), (top,) * 16):
                self.same(is_map(width, masks), True)

    def test_16_and_17_masks(self):
        self.same(is_map(16, UNITS), True)
        self.same(is_map(16, UNITS + (0,)), False)
        self.same(is_map(1, (1,) * 17), False)

    def test_other_values(self):
        for width in (1, 4, 16):
            for value in no_vectors(width, 16):
                self.same(is_map(width, value), False)

    def test_width_decides(self):
        for width in range(1, 16):
            self.same(is_map(width, ((1 << width) - 1,)), True)
            self.same(is_map(width, (1 << width,)), False)
            self.same(is_map(width + 1, (1 << width,)), True)

    def test_wrong_width(self):
        for width in NO_WIDTHS:
            self.fails_with(InvalidWidth, width, is_map, width, ())
            self.fails_with(InvalidWidth, width, is_map, value=None, width=width)

    def test_by_name(self):
        self.same(is_map(value=(15,), width=4), True)


class Bank(Case):
    def test_against_the_definition(self):
        for width, masks in itertools.chain(small_maps(), sampled_maps()):
            for address in range(1 << width):
                self.same(bank(width, masks, address), bank_by_hand(masks, address))

    def test_empty_map(self):
        for width in range(1, 17):
            self.same(bank(width, (), (1 << width) - 1), 0)

    def test_greatest(self):
        self.same(bank(16, UNITS, 65535), 65535)
        self.same(bank(16, UNITS[::-1], 1), 32768)
        self.same(bank(16, (65535,) * 16, 32768), 65535)
        self.same(bank(1, (1,) * 16, 1), 65535)
        self.same(bank(1, (0,) * 16, 1), 0)

    def test_by_name(self):
        self.same(bank(address=12, masks=SWIZZLE, width=4), 3)

    def test_wrong_address(self):
        for width in (1, 4, 16):
            for address in no_addresses(width):
                self.fails_with(InvalidAddress, address, bank, width, (1,), address)


class Kernel(Case):
    def test_against_the_definition(self):
        for width, masks in itertools.chain(small_maps(), sampled_maps()):
            space = {a for a in range(1 << width) if bank_by_hand(masks, a) == 0}
            self.same(kernel(width, masks), least_basis(space))

    def test_edges(self):
        for width in range(1, 17):
            self.same(kernel(width, ()), UNITS[:width])
            self.same(kernel(width, (0,) * 16), UNITS[:width])
            self.same(kernel(width, UNITS[:width]), ())
        self.same(kernel(1, (1,)), ())
        self.same(kernel(16, (65535,)), tuple((1 << bit) + 1 for bit in range(1, 16)))

    def test_by_name(self):
        self.same(kernel(masks=SWIZZLE, width=4), (5, 10))


class BankCount(Case):
    def test_against_the_definition(self):
        for width, masks in itertools.chain(small_maps(), sampled_maps()):
            banks = {bank_by_hand(masks, address) for address in range(1 << width)}
            self.same(bank_count(width, masks), len(banks))

    def test_edges(self):
        for width in range(1, 17):
            self.same(bank_count(width, ()), 1)
            self.same(bank_count(width, (0,) * 16), 1)
            self.same(bank_count(width, UNITS[:width]), 2 ** width)
            self.same(bank_count(width, (1,) * 16), 2)

    def test_by_name(self):
        self.same(bank_count(masks=(5, 10, 15), width=4), 4)


class Joined(Case):
    def test_joined(self):
        self.same(joined(4, (1, 2), (3,)), (1, 2, 3))
        self.same(joined(4, (3,), (1, 2)), (3, 1, 2))
        self.same(joined(4, (7, 7), (7,), (0,)), (7, 7, 7, 0))
        self.same(joined(1, (1,)), (1,))

    def test_no_maps(self):
        for width in (1, 4, 16):
            self.same(joined(width), ())
            self.same(joined(width=width), ())
            self.same(joined(width, (), ()), ())
            self.same(joined(width, *((),) * 40), ())

    def test_16_and_17_masks_in_all(self):
        self.same(joined(16, UNITS), UNITS)
        self.same(joined(16, UNITS[:9], (), UNITS[9:]), UNITS)
        for maps in ((UNITS, (5,)), ((5,), UNITS), (UNITS[:9], UNITS[8:]), (UNITS, UNITS)):
            error = self.fails(InvalidMap, joined, 16, *maps)
            self.same(error.value, sum(maps, ()))
        self.same(self.fails(InvalidMap, joined, 1, *((1,),) * 17).value, (1,) * 17)

    def test_the_first_that_is_no_map(self):
        for wrong in no_vectors(4, 16):
            self.fails_with(InvalidMap, wrong, joined, 4, wrong)
            self.fails_with(InvalidMap, wrong, joined, 4, (1,), wrong, None)
            self.fails_with(InvalidMap, wrong, joined, 4, (1,), (), wrong, [1], (16,))

    def test_no_map_ahead_of_too_many_masks(self):
        wrong = (16,)
        self.fails_with(InvalidMap, wrong, joined, 4, (1,) * 16, (2,) * 16, wrong)
        alone = (1,) * 17
        self.fails_with(InvalidMap, alone, joined, 4, (1,) * 16, alone)

    def test_wrong_width(self):
        for width in NO_WIDTHS:
            self.fails_with(InvalidWidth, width, joined, width)
            self.fails_with(InvalidWidth, width, joined, width, None, (1,) * 17)


class Recoding(Case):
    def check(self, width, masks, others):
        result = recoding(width, masks, others)
        if set(others) <= spanned(masks):
            self.same(is_map(len(masks), result), True)
            self.same(len(result), len(others))
            for address in range(1 << width):
                here = bank_by_hand(masks, address)
                self.same(bank_by_hand(result, here), bank_by_hand(others, address))
        else:
            self.assertIsNone(result)

    def test_small_widths(self):
        for width in (1, 2):
            maps = [masks for size in range(4) for masks in itertools.product(range(1 << width), repeat=size)]
            for masks, others in itertools.product(maps, maps):
                if masks:
                    self.check(width, masks, others)

    def test_sampled(self):
        chance = random.Random(10)
        for width in (3, 4, 6):
            for size in (1, 2, width - 1, width, width + 1, 16):
                for many in (1, 2, 16):
                    masks = tuple(chance.randrange(1 << width) for _ in range(size))
                    inside = sorted(spanned(masks))
                    self.check(width, masks, tuple(chance.choice(inside) for _ in range(many)))
                    self.check(width, masks, tuple(chance.randrange(1 << width) for _ in range(many)))

    def test_masks_that_are_all_zero(self):
        self.same(recoding(3, (0,), (1,)), None)
        self.check(3, (0, 0), (0, 0, 0))
        self.check(1, (0,), (0,))

    def test_no_others(self):
        self.same(recoding(4, (5,), ()), ())
        self.same(recoding(4, (0,) * 16, ()), ())

    def test_width_sixteen(self):
        self.same(recoding(16, UNITS, (65535, 1, 0)), (65535, 1, 0))
        self.same(recoding(16, UNITS[::-1], UNITS), UNITS[::-1])
        self.same(recoding(16, UNITS[1:], (1,)), None)
        self.same(recoding(16, UNITS[1:], (2, 65534)), (1, 32767))
        self.same(recoding(16, UNITS[1:], (2, 65535)), None)

    def test_no_masks(self):
        nothing = ()
        for others in ((), (1,), (0,), SWIZZLE):
            self.fails_with(InvalidMap, nothing, recoding, 4, nothing, others)

    def test_which_of_several_errors(self):
        for others in no_vectors(4, 16):
            self.fails_with(InvalidMap, others, recoding, 4, SWIZZLE, others)
            self.fails_with(InvalidMap, others, recoding, 4, (), others)
            self.fails_with(InvalidMap, others, recoding, others=others, masks=(), width=4)
        for masks in no_vectors(4, 16):
            self.fails_with(InvalidMap, masks, recoding, 4, masks, SWIZZLE)
            self.fails_with(InvalidMap, masks, recoding, 4, masks, [99])
            self.fails_with(InvalidMap, masks, recoding, others=None, masks=masks, width=4)
        for width in NO_WIDTHS:
            self.fails_with(InvalidWidth, width, recoding, width, (1,), (1,))
            self.fails_with(InvalidWidth, width, recoding, width, None, [99])

    def test_by_name(self):
        self.same(recoding(others=(15,), masks=(5, 10), width=4), (3,))


class Completed(Case):
    def check(self, width, masks):
        result = completed(width, masks)
        expected = list(masks)
        for power in UNITS[:width]:
            if power not in spanned(expected):
                expected.append(power)
        self.same(result, tuple(expected))
        self.same(len(result), width)

    def test_small_widths(self):
        for width, masks in small_maps():
            if len(spanned(masks)) == 2 ** len(masks):
                self.check(width, masks)
                banks = {bank_by_hand(completed(width, masks), address) for address in range(1 << width)}
                self.same(len(banks), 2 ** width)
            else:
                self.fails(Dependent, completed, width, masks)

    def test_greater_widths(self):
        for width, masks in independent_maps():
            self.check(width, masks)

    def test_edges(self):
        for width in range(1, 17):
            self.same(completed(width, ()), UNITS[:width])
            self.same(completed(width, UNITS[:width]), UNITS[:width])
            self.same(completed(width, UNITS[width - 1::-1]), UNITS[width - 1::-1])
            top = (1 << width) - 1
            self.same(completed(width, (top,)), (top,) + UNITS[:width - 1])

    def test_dependent_masks(self):
        for masks in ((0,), (1, 0), (5, 5), (5, 10, 15), (1, 2, 4, 8, 15), (1, 2, 4, 8, 1), (0,) * 16):
            self.fails(Dependent, completed, 4, masks)
        self.fails(Dependent, completed, 15, UNITS[:15] + (7,))
        self.fails(Dependent, completed, 1, (1, 1))

    def test_by_name(self):
        self.same(completed(masks=SWIZZLE, width=4), (5, 10, 1, 2))


class Inverse(Case):
    def check(self, width, masks):
        result = inverse(width, masks)
        self.same(is_map(width, result), True)
        self.same(len(result), width)
        for address in range(0, 1 << width, 1 if width < 10 else 97):
            self.same(bank_by_hand(result, bank_by_hand(masks, address)), address)
        self.same(inverse(width, result), masks)

    def test_small_widths(self):
        for width, masks in small_maps():
            if len(masks) == width and len(spanned(masks)) == 2 ** width:
                self.check(width, masks)
            else:
                self.fails(NotInvertible, inverse, width, masks)

    def test_greater_widths(self):
        for width, masks in independent_maps():
            if len(masks) == width:
                self.check(width, masks)
            else:
                self.fails(NotInvertible, inverse, width, masks)

    def test_edges(self):
        self.same(inverse(1, (1,)), (1,))
        for width in range(1, 17):
            units = UNITS[:width]
            self.same(inverse(width, units), units)
            self.same(inverse(width, units[::-1]), units[::-1])
            self.fails(NotInvertible, inverse, width, units[1:])
            self.fails(NotInvertible, inverse, width, units[1:] + (0,))
            self.fails(NotInvertible, inverse, width, ())
            if width < 16:
                self.fails(NotInvertible, inverse, width, units + (1,))

    def test_dependent_masks(self):
        for masks in ((0, 0, 0, 0), (1, 2, 3, 8), (5, 10, 15, 1), (7, 7, 1, 2)):
            self.fails(NotInvertible, inverse, 4, masks)

    def test_by_name(self):
        self.same(inverse(masks=(3, 2), width=2), (3, 2))


class WrongInputs(Case):
    def test_width(self):
        for width in NO_WIDTHS:
            for function in OF_MASKS:
                self.fails_with(InvalidWidth, width, function, width, (1,))
                self.fails_with(InvalidWidth, width, function, width, None)
            self.fails_with(InvalidWidth, width, bank, width, (1,), 0)
            self.fails_with(InvalidWidth, width, bank, width, None, None)

    def test_masks(self):
        for width in (1, 4, 16):
            for masks in no_vectors(width, 16):
                for function in OF_MASKS:
                    self.fails_with(InvalidMap, masks, function, width, masks)
                    self.fails_with(InvalidMap, masks, function, masks=masks, width=width)
                self.fails_with(InvalidMap, masks, bank, width, masks, 0)
                self.fails_with(InvalidMap, masks, bank, width, masks, None)
                self.fails_with(InvalidMap, masks, bank, address=-1, masks=masks, width=width)

    def test_17_masks_are_no_map_whatever_else(self):
        many = UNITS + (1,)
        for function in OF_MASKS:
            self.fails_with(InvalidMap, many, function, 16, many)

    def test_equal_calls_and_unchanged_arguments(self):
        masks = (5, 10, 1, 2)
        for function in OF_MASKS:
            self.same(function(4, masks), function(4, tuple(list(masks))))
            self.same(masks, (5, 10, 1, 2))


if __name__ == "__main__":
    unittest.main()
