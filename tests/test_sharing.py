import itertools
import random
import unittest

from tests.support import NO_WIDTHS, Case, least_basis, no_vectors, odd, spanned
from xorbanks.conflicts import degrees
from xorbanks.errors import InvalidMap, InvalidVectors, InvalidWidth
from xorbanks.groups import block
from xorbanks.sharing import block_degree, is_shared, meet, shared_map, sum_basis

SWIZZLE = (5, 10)
OF_TWO = (shared_map, meet, sum_basis)


def bank_by_hand(masks, address):
    return tuple(odd(address & mask) for mask in masks)


def patterns(width, many):
    """Vectors of all ranks and some lengths, the same in each run."""
    chance = random.Random(30 + width)
    made = [(), (0,), (0,) * 64, (1,) * 64, tuple(1 << bit for bit in range(width))]
    for _ in range(many):
        rank = chance.randrange(width + 1)
        own = [chance.randrange(1 << width) for _ in range(rank)]
        # XORs of the same few vectors, so that longer vectors are not of full rank.
        mixed = [chance.choice(own) ^ chance.choice(own) for _ in range(chance.choice((0, 1, 3)))] if own else []
        made.append(tuple(own + mixed))
    return made


def pairs(width):
    if width < 3:
        vectors = [chosen for size in range(4) for chosen in itertools.product(range(1 << width), repeat=size)]
    else:
        vectors = patterns(width, 20 if width < 10 else 7)
    return itertools.product(vectors, vectors)


class Document(Case):
    def test_first_example(self):
        self.same(
            [meet(4, (1, 6), (7, 8)), sum_basis(4, (1, 6), (7, 8)), block_degree(4, (5,), (1, 2)),
             is_shared(4, SWIZZLE, (1, 2), (4, 8)), is_shared(2, (1,), (1,), (2,))],
            [(7,), (1, 6, 8), 2, True, False])

    def test_second_example(self):
        masks = shared_map(4, (1, 2), (2, 4, 8))
        self.same([len(masks), is_shared(4, masks, (1, 2), (2, 4, 8))], [3, True])


class MeetAndSum(Case):
    def test_beside_the_spans_as_sets(self):
        for width in (1, 2, 3, 4, 6, 8):
            for one, other in pairs(width):
                first, second = spanned(one), spanned(other)
                self.same(meet(width, one, other), least_basis(first & second))
                self.same(sum_basis(width, one, other), least_basis({a ^ b for a in first for b in second}))

    def test_edges(self):
        for width in (1, 6, 16):
            units = tuple(1 << bit for bit in range(width))
            top = (1 << width) - 1
            self.same(meet(width, (), ()), ())
            self.same(sum_basis(width, (), ()), ())
            self.same(meet(width, units, ()), ())
            self.same(sum_basis(width, (), units), units)
            self.same(meet(width, units, (top,) * 64), (top,))
            self.same(sum_basis(width, units * 4, (top,) * 64), units)
            self.same(meet(width, (0,) * 64, (top,)), ())
            self.same(sum_basis(width, (0,) * 64, (top,) * 64), (top,))
            self.same(meet(width, units, units[::-1]), units)
        self.same(meet(16, tuple(range(1, 65)), tuple(range(64, 128))), (1, 2, 4, 8, 16, 32, 64))
        self.same(sum_basis(16, tuple(range(64)), tuple(range(1024, 1088))), (1, 2, 4, 8, 16, 32, 1024))


class SharedMap(Case):
    def check(self, width, one, other):
        masks = shared_map(width, one, other)
        self.assertIsInstance(masks, tuple)
        for mask in masks:
            self.same(mask.__class__, int)
            self.assertIn(mask, range(1 << width))
        spaces = [spanned(one), spanned(other)]
        self.same(len(masks), max(len(space).bit_length() - 1 for space in spaces))
        for space in spaces:
            for address in space - {0}:
                self.assertTrue(any(bank_by_hand(masks, address)))
        self.same(is_shared(width, masks, one, other), True)

    def test_small_widths(self):
        for width in (1, 2, 3, 4, 6):
            for one, other in pairs(width):
                self.check(width, one, other)

    def test_all_pairs_of_spaces(self):
        vectors = {least_basis(spanned(chosen)) for chosen in itertools.product(range(8), repeat=3)}
        for one, other in itertools.product(sorted(vectors), repeat=2):
            self.check(3, one, other)

    def test_great_widths(self):
        for width in (10, 16):
            for one, other in list(pairs(width))[::5]:
                if max(len(spanned(one)), len(spanned(other))) <= 2048:
                    self.check(width, one, other)

    def test_great_ranks(self):
        for width in range(1, 17):
            units = tuple(1 << bit for bit in range(width))
            steps = tuple(unit ^ unit >> 1 for unit in units)
            for one, other, rank in (
                    (units, steps, width), (units[1:], steps[:-1], width - 1), (units[:-1], (), width - 1),
                    (units, (1,) * 64, width), (steps[:1], steps[1:], max(1, width - 1))):
                for masks in (shared_map(width, one, other), shared_map(width, other, one)):
                    self.same(len(masks), rank)
                    self.same(block_degree(width, masks, one), 1)
                    self.same(block_degree(width, masks, other), 1)

    def test_no_vectors(self):
        for width in (1, 6, 16):
            self.same(shared_map(width, (), ()), ())
            self.same(shared_map(width, (0,), (0,) * 64), ())
            self.same(len(shared_map(width, (1,), ())), 1)
            self.same(len(shared_map(width, (), (1,) * 64)), 1)

    def test_equal_calls(self):
        self.same(shared_map(9, (3, 5, 96), (3, 17)), shared_map(9, (3, 5, 96), (3, 17)))


class BlockDegree(Case):
    def test_beside_single_blocks(self):
        chance = random.Random(31)
        for width in (1, 2, 3, 4, 6):
            for vectors in patterns(width, 15):
                for size in (0, 1, 2, 3, width, 16):
                    masks = tuple(chance.randrange(1 << width) for _ in range(size))
                    found = block_degree(width, masks, vectors)
                    for start in {0, 1, (1 << width) - 1, chance.randrange(1 << width)}:
                        self.same((found,), degrees(width, masks, (block(width, start, vectors),)))

    def test_blocks_too_great_for_a_group(self):
        chance = random.Random(32)
        for width in (8, 11):
            for vectors in patterns(width, 10):
                for size in (0, 1, 3, 16):
                    masks = tuple(chance.randrange(1 << width) for _ in range(size))
                    banks = [bank_by_hand(masks, address) for address in spanned(vectors)]
                    self.same(block_degree(width, masks, vectors), max(banks.count(bank) for bank in set(banks)))

    def test_edges(self):
        for width in (1, 6, 16):
            units = tuple(1 << bit for bit in range(width))
            self.same(block_degree(width, (), ()), 1)
            self.same(block_degree(width, (), (1,) * 64), 2)
            self.same(block_degree(width, (), units), 2 ** width)
            self.same(block_degree(width, (0,) * 16, units), 2 ** width)
            self.same(block_degree(width, (1,) * 16, units), 2 ** (width - 1))
            self.same(block_degree(width, units, units), 1)
            self.same(block_degree(width, units, (0,) * 64), 1)


class IsShared(Case):
    def test_beside_each_element(self):
        chance = random.Random(33)
        seen = set()
        for width in (1, 2, 3, 4, 6):
            vectors = patterns(width, 12)
            for _ in range(150):
                masks = tuple(chance.randrange(1 << width) for _ in range(chance.randrange(width + 2)))
                chosen = [chance.choice(vectors) for _ in range(chance.randrange(4))]
                zeros = [a for own in chosen for a in spanned(own) if a and not any(bank_by_hand(masks, a))]
                self.same(is_shared(width, masks, *chosen), not zeros)
                seen.add((len(chosen), not zeros))
        self.assertEqual(seen, {(0, True), (1, True), (1, False), (2, True), (2, False), (3, True), (3, False)})

    def test_no_patterns(self):
        for width in (1, 6, 16):
            for masks in ((), (0,) * 16, (1,)):
                self.same(is_shared(width, masks), True)
                self.same(is_shared(masks=masks, width=width), True)
                self.same(is_shared(width, masks, (), (0,) * 64), True)

    def test_each_place(self):
        for at in range(5):
            given = [(2,), (), (2, 2), (0,), (2,)]
            self.same(is_shared(4, (2,), *given), True)
            given[at] = (1,)
            self.same(is_shared(4, (2,), *given), False)

    def test_great_width(self):
        units = tuple(1 << bit for bit in range(16))
        self.same(is_shared(16, units, units, units[::-1] * 4), True)
        self.same(is_shared(16, units[1:], units[1:], units), False)


class WrongInputs(Case):
    def test_of_two(self):
        for width in (1, 6, 16):
            for function in OF_TWO:
                self.refuses(
                    function, ("width", width, InvalidWidth, NO_WIDTHS),
                    ("one", (1, 0), InvalidVectors, no_vectors(width, 64)),
                    ("other", (), InvalidVectors, no_vectors(width, 64)))

    def test_block_degree(self):
        for width in (1, 6, 16):
            self.refuses(
                block_degree, ("width", width, InvalidWidth, NO_WIDTHS),
                ("masks", (1, 0), InvalidMap, no_vectors(width, 16)),
                ("vectors", (1, 0), InvalidVectors, no_vectors(width, 64)))

    def test_is_shared(self):
        for width in (1, 6, 16):
            self.refuses(
                is_shared, ("width", width, InvalidWidth, NO_WIDTHS),
                ("masks", (1, 0), InvalidMap, no_vectors(width, 16)))
            for wrong in no_vectors(width, 64):
                self.fails_with(InvalidVectors, wrong, is_shared, width, (), wrong)
                self.fails_with(InvalidVectors, wrong, is_shared, width, (), (1,), wrong, None, (1 << width,))
                self.fails_with(InvalidVectors, wrong, is_shared, width, (1,), (1,), (), wrong, [wrong])
            for wrong in no_vectors(width, 16):
                self.fails_with(InvalidMap, wrong, is_shared, width, wrong, [], 5)
            self.fails_with(InvalidWidth, 0, is_shared, 0, [], 5)

    def test_by_name(self):
        self.same(meet(other=(7, 8), one=(1, 6), width=4), (7,))
        self.same(sum_basis(other=(7, 8), one=(1, 6), width=4), (1, 6, 8))
        self.same(len(shared_map(other=(2, 4, 8), one=(1, 2), width=4)), 3)
        self.same(block_degree(vectors=(1, 2), masks=(5,), width=4), 2)


if __name__ == "__main__":
    unittest.main()
