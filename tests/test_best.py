import itertools
import random
import unittest

from tests.support import NO_BITS, NO_SMALL_WIDTHS, Case, all_maps, no_groups, odd
from xorbanks.best import fewest_cycles, least_degree, quickest_map, smoothest_map, trade
from xorbanks.errors import InvalidBits, InvalidGroups, InvalidWidth

TILE = ((0, 1, 2, 3), (0, 4, 8, 12))
OF_BITS = (fewest_cycles, quickest_map, least_degree, smoothest_map)
# The most masks for which all maps of a width are gone through.
MOST = {1: 4, 2: 3, 3: 3, 4: 2, 5: 1, 6: 1}


def degrees_by_hand(masks, groups):
    degrees = []
    for group in groups:
        banks = [tuple(odd(address & mask) for mask in masks) for address in group]
        degrees.append(max(banks.count(bank) for bank in banks))
    return degrees


def sampled_groups(width):
    """Groups of several sizes, the same in each run."""
    chance = random.Random(50 + width)
    size = 1 << width
    made = [(), ((0,),), ((size - 1,),) * 20, (tuple(range(size)),)]
    for many in (1, 2, 3, 3, 5, 20):
        made.append(tuple(
            tuple(sorted(chance.sample(range(size), chance.randrange(1, min(size, 9) + 1)))) for _ in range(many)))
    return made


def all_groups():
    """All groups of a width of 2, and all pairs of them."""
    groups = [group for size in (1, 2, 3, 4) for group in itertools.combinations(range(4), size)]
    return [(group,) for group in groups] + list(itertools.product(groups, groups))


def questions(width):
    return sampled_groups(width) + (all_groups() if width == 2 else [])


class Document(Case):
    def test_example(self):
        self.same(
            [fewest_cycles(4, TILE, 1), least_degree(4, TILE, 1), trade(4, TILE),
             trade(2, ((0, 1), (0, 2), (0, 3)))],
            [4, 2, (8, 4, 2), (6, 4, 3)])


class BesideAllMaps(Case):
    def is_a_map(self, width, masks, bits):
        self.assertIsInstance(masks, tuple)
        self.same(len(masks), bits)
        for mask in masks:
            self.same(mask.__class__, int)
            self.assertIn(mask, range(1 << width))

    def check_maps(self, width, groups, bits, cycles, most):
        self.same(fewest_cycles(width, groups, bits), cycles)
        self.same(least_degree(width, groups, bits), most)
        quick = quickest_map(width, groups, bits)
        self.is_a_map(width, quick, bits)
        self.same(sum(degrees_by_hand(quick, groups)), cycles)
        smooth = smoothest_map(width, groups, bits)
        self.is_a_map(width, smooth, bits)
        self.same(max(degrees_by_hand(smooth, groups), default=0), most)

    def test_small_widths(self):
        for width, most_bits in MOST.items():
            for groups in questions(width):
                for bits in range(most_bits + 1):
                    rated = [degrees_by_hand(masks, groups) for masks in all_maps(width, bits)]
                    cycles = min(sum(degrees) for degrees in rated)
                    most = min(max(degrees, default=0) for degrees in rated)
                    self.check_maps(width, groups, bits, cycles, most)

    def test_the_quickest_need_not_be_the_smoothest(self):
        differ = 0
        for width in (3, 4):
            chance = random.Random(59)
            for _ in range(60):
                groups = tuple(
                    tuple(sorted(chance.sample(range(1 << width), chance.choice((2, 2, 5))))) for _ in range(6))
                rated = [degrees_by_hand(masks, groups) for masks in all_maps(width, 1)]
                cycles, most = min(map(sum, rated)), min(map(max, rated))
                self.check_maps(width, groups, 1, cycles, most)
                differ += all(max(degrees) > most for degrees in rated if sum(degrees) == cycles)
        self.assertGreater(differ, 0)

    def test_as_many_masks_as_bits_of_the_width_and_more(self):
        for width in range(1, 7):
            for groups in sampled_groups(width):
                for bits in (width, width + 1, 16):
                    self.check_maps(width, groups, bits, len(groups), min(1, len(groups)))

    def test_no_masks(self):
        for width in range(1, 7):
            for groups in sampled_groups(width):
                sizes = [len(group) for group in groups]
                self.check_maps(width, groups, 0, sum(sizes), max(sizes, default=0))

    def test_great_groups(self):
        every = tuple(range(64))
        for bits in range(17):
            self.check_maps(6, (every,) * 20, bits, 20 * max(1, 64 >> bits), max(1, 64 >> bits))
        self.same(fewest_cycles(1, ((0, 1),) * 20, 0), 40)
        self.same(quickest_map(6, (), 0), ())
        self.same(smoothest_map(6, (every,), 0), ())

    def test_no_groups(self):
        for width in (1, 6):
            for bits in (0, 1, 16):
                self.check_maps(width, (), bits, 0, 0)

    def test_equal_calls(self):
        for bits in (1, 2, 3):
            self.same(quickest_map(4, TILE, bits), quickest_map(4, TILE, bits))
            self.same(smoothest_map(4, TILE, bits), smoothest_map(4, TILE, bits))


class Trade(Case):
    def check(self, width, groups, fewest):
        """The fewest cycles for all numbers of masks, up to the first one that no greater one beats."""
        last = next(at for at, cycles in enumerate(fewest) if all(cycles <= other for other in fewest[at:]))
        self.same(trade(width, groups), tuple(fewest[:last + 1]))

    def test_beside_all_maps(self):
        for width in (1, 2, 3):
            for groups in questions(width):
                fewest = [
                    min(sum(degrees_by_hand(masks, groups)) for masks in all_maps(width, bits))
                    for bits in range(width + 1)]
                self.check(width, groups, fewest)

    def test_beside_fewest_cycles(self):
        for width in (4, 5, 6):
            for groups in sampled_groups(width):
                self.check(width, groups, [fewest_cycles(width, groups, bits) for bits in range(17)])

    def test_a_number_of_masks_that_changes_nothing(self):
        # Each of the 15 differences of a width of 4 comes up once, so that three masks always leave one pair.
        self.check(4, ((0, 1, 2, 4, 8, 15),), [6, 4, 2, 2, 1])
        self.same(trade(4, ((0, 1, 2, 4, 8, 15),)), (6, 4, 2, 2, 1))
        self.same(trade(5, ((0, 1, 2, 4, 8, 15), (0, 16))), (8, 5, 3, 3, 2))

    def test_edges(self):
        for width in (1, 6):
            self.same(trade(width, ()), (0,))
            self.same(trade(width, ((0,), (1,))), (2,))
            self.same(trade(width, ((0, 1),) * 20), (40, 20))
        self.same(trade(6, (tuple(range(64)),)), (64, 32, 16, 8, 4, 2, 1))
        self.same(trade(6, ((0,) + tuple(1 << bit for bit in range(6)),)), (7, 4, 2, 1))


class WrongInputs(Case):
    def test_of_bits(self):
        for width in (1, 6):
            for function in OF_BITS:
                self.refuses(
                    function, ("width", width, InvalidWidth, NO_SMALL_WIDTHS),
                    ("groups", ((0, 1),), InvalidGroups, no_groups(width)), ("bits", 1, InvalidBits, NO_BITS))

    def test_trade(self):
        for width in (1, 6):
            self.refuses(
                trade, ("width", width, InvalidWidth, NO_SMALL_WIDTHS),
                ("groups", ((0, 1),), InvalidGroups, no_groups(width)))

    def test_by_name(self):
        self.same(fewest_cycles(bits=1, groups=TILE, width=4), 4)
        self.same(least_degree(bits=1, groups=TILE, width=4), 2)
        self.same(len(quickest_map(bits=3, groups=TILE, width=4)), 3)
        self.same(len(smoothest_map(bits=3, groups=TILE, width=4)), 3)
        self.same(trade(groups=TILE, width=4), (8, 4, 2))


if __name__ == "__main__":
    unittest.main()
