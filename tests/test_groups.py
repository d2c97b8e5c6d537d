import itertools
import random
import unittest

from tests.support import (
    NO_INTS, NO_WIDTHS, Case, least_basis, no_addresses, no_group, no_groups, no_vectors, spanned)
from xorbanks.errors import (
    InvalidAddress, InvalidCount, InvalidGroup, InvalidGroups, InvalidNumber, InvalidVectors, InvalidWidth, TooMany)
from xorbanks.groups import are_groups, as_block, block, differences, is_group, strided

TILE = ((0, 1, 2, 3), (0, 4, 8, 12))
UNITS = tuple(1 << bit for bit in range(16))
NO_COUNTS = (0, -1, 65, 66, 10 ** 30, -10 ** 30) + NO_INTS


def sampled_groups():
    """Groups of several widths, the same in each run, with 1 and 64 addresses and 0 and 20 groups among them."""
    chance = random.Random(11)
    for width in (1, 2, 4, 6, 7, 16):
        most = min(64, 1 << width)
        for many in (0, 1, 2, 5, 20):
            for size in (1, 2, most // 2, most):
                yield width, tuple(tuple(sorted(chance.sample(range(1 << width), size))) for _ in range(many))


class Document(Case):
    def test_example(self):
        self.same(
            [differences(4, TILE), strided(4, 14, 3, 4), strided(4, 0, -8, 5), block(4, 5, (12, 4)),
             as_block(4, (1, 5, 9, 13)), as_block(4, (0, 1, 2))],
            [(1, 2, 3, 4, 8, 12), (1, 4, 7, 14), (0, 8), (1, 5, 9, 13), (1, (4, 8)), None])


class IsGroup(Case):
    def test_groups(self):
        for width in (1, 2, 6, 16):
            top = (1 << width) - 1
            for group in ((0,), (top,), (0, top), tuple(range(min(64, top + 1)))):
                self.same(is_group(width, group), True)
                self.same(are_groups(width, (group,)), True)
        self.same(is_group(4, (1, 2, 5)), True)

    def test_64_and_65_addresses(self):
        self.same(is_group(16, tuple(range(64))), True)
        self.same(is_group(16, tuple(range(65))), False)
        self.same(is_group(7, tuple(range(64, 128))), True)
        self.same(is_group(7, tuple(range(63, 128))), False)

    def test_other_values(self):
        for width in (1, 4, 6, 7, 16):
            for value in no_group(width):
                self.same(is_group(width, value), False)

    def test_width_decides(self):
        for width in range(1, 16):
            self.same(is_group(width, (0, 1 << width)), False)
            self.same(is_group(width + 1, (0, 1 << width)), True)
            self.same(are_groups(width, ((0, 1 << width),)), False)
            self.same(are_groups(width + 1, ((0, 1 << width),)), True)

    def test_by_name(self):
        self.same(is_group(value=(1, 3), width=2), True)

    def test_wrong_width(self):
        for width in NO_WIDTHS:
            self.fails_with(InvalidWidth, width, is_group, width, (1,))
            self.fails_with(InvalidWidth, width, is_group, value=None, width=width)


class AreGroups(Case):
    def test_groups(self):
        for width, groups in sampled_groups():
            self.same(are_groups(width, groups), True)
        for width in range(1, 17):
            self.same(are_groups(width, ()), True)

    def test_20_and_21_groups(self):
        self.same(are_groups(4, ((3,),) * 20), True)
        self.same(are_groups(4, ((3,),) * 21), False)

    def test_equal_groups_in_any_order(self):
        self.same(are_groups(4, ((5, 6), (1,), (5, 6), (0, 15))), True)

    def test_other_values(self):
        for width in (1, 4, 6, 7, 16):
            for value in no_groups(width):
                self.same(are_groups(width, value), False)

    def test_by_name(self):
        self.same(are_groups(value=TILE, width=4), True)

    def test_wrong_width(self):
        for width in NO_WIDTHS:
            self.fails_with(InvalidWidth, width, are_groups, width, ((1,),))
            self.fails_with(InvalidWidth, width, are_groups, value=None, width=width)


class Differences(Case):
    def test_against_the_definition(self):
        for width, groups in sampled_groups():
            found = set()
            for group in groups:
                found |= {one ^ other for one, other in itertools.combinations(group, 2)}
            self.same(differences(width, groups), tuple(sorted(found)))

    def test_pairs_of_one_group_alone(self):
        self.same(differences(4, ((0, 1), (2, 6))), (1, 4))
        self.same(differences(4, ((0,), (2,), (6,))), ())

    def test_edges(self):
        for width in range(1, 17):
            top = (1 << width) - 1
            self.same(differences(width, ()), ())
            self.same(differences(width, ((top,),)), ())
            self.same(differences(width, ((0, top),)), (top,))
        self.same(differences(6, (tuple(range(64)),)), tuple(range(1, 64)))
        self.same(differences(16, (tuple(range(65472, 65536)),) * 20), tuple(range(1, 64)))

    def test_by_name(self):
        self.same(differences(groups=TILE, width=4), (1, 2, 3, 4, 8, 12))

    def test_wrong_inputs(self):
        for width in (1, 6, 16):
            self.refuses(
                differences, ("width", width, InvalidWidth, NO_WIDTHS),
                ("groups", ((0, 1),), InvalidGroups, no_groups(width)))


class Strided(Case):
    def check(self, width, start, step, count):
        expected = set()
        for index in range(count):
            expected.add((start + index * step) & ((1 << width) - 1))
        self.same(strided(width, start, step, count), tuple(sorted(expected)))

    def test_against_the_definition(self):
        steps = (0, 1, -1, 2, 3, -3, 5, 8, -8, 63, 64, 65, -64, -65, 65535, 65536, 65537, -65536, 10 ** 40, -7 ** 50)
        for width in (1, 2, 4, 6, 16):
            for start in (0, 1, (1 << width) // 2, (1 << width) - 1):
                for step, count in itertools.product(steps, (1, 2, 3, 7, 63, 64)):
                    self.check(width, start, step, count)

    def test_examples_by_hand(self):
        self.same(strided(3, 6, 1, 4), (0, 1, 6, 7))
        self.same(strided(3, 1, -1, 3), (0, 1, 7))
        self.same(strided(3, 5, 8, 64), (5,))
        self.same(strided(16, 65535, 1, 1), (65535,))
        self.same(strided(16, 65535, 1, 2), (0, 65535))
        self.same(strided(16, 0, 1, 64), tuple(range(64)))
        self.same(strided(1, 0, 3, 64), (0, 1))

    def test_by_name(self):
        self.same(strided(count=4, step=3, start=14, width=4), (1, 4, 7, 14))

    def test_wrong_inputs(self):
        for width in (1, 6, 16):
            self.refuses(
                strided, ("width", width, InvalidWidth, NO_WIDTHS),
                ("start", 1, InvalidAddress, no_addresses(width)),
                ("step", -3, InvalidNumber, NO_INTS), ("count", 3, InvalidCount, NO_COUNTS))


class Block(Case):
    def check(self, width, start, vectors):
        expected = tuple(sorted(start ^ vector for vector in spanned(vectors)))
        self.same(block(width, start, vectors), expected)
        self.same(is_group(width, expected), True)
        self.same(as_block(width, expected), (expected[0], least_basis(spanned(vectors))))

    def test_small_widths(self):
        for width in (1, 2, 3):
            for size in range(4):
                for vectors in itertools.product(range(1 << width), repeat=size):
                    for start in range(1 << width):
                        self.check(width, start, vectors)

    def test_sampled(self):
        chance = random.Random(12)
        for width in (4, 6, 7, 12, 16):
            for size in (0, 1, 2, 4, 6):
                vectors = tuple(chance.randrange(1 << width) for _ in range(size))
                for more in ((), (0, 0), vectors, vectors[::-1] + vectors):
                    self.check(width, chance.randrange(1 << width), vectors + more)

    def test_edges(self):
        for width in range(1, 17):
            top = (1 << width) - 1
            self.same(block(width, top, ()), (top,))
            self.same(block(width, top, (0,) * 64), (top,))
            self.same(block(width, top, (top,)), (0, top))
        self.same(block(6, 63, tuple(range(64))), tuple(range(64)))

    def test_64_addresses_and_more(self):
        self.same(block(16, 65535, UNITS[:6]), tuple(range(65472, 65536)))
        self.same(block(16, 0, UNITS[10:]), tuple(range(0, 65536, 1024)))
        for vectors in (UNITS[:7], UNITS, UNITS[9:], UNITS[::-1], tuple(3 << bit for bit in range(7))):
            self.same(self.fails(TooMany, block, 16, 5, vectors).value, 64)
        self.same(self.fails(TooMany, block, 7, 0, UNITS[:7]).value, 64)

    def test_by_name(self):
        self.same(block(vectors=(12, 4), start=5, width=4), (1, 5, 9, 13))

    def test_wrong_inputs(self):
        for width in (1, 6, 16):
            self.refuses(
                block, ("width", width, InvalidWidth, NO_WIDTHS), ("start", 1, InvalidAddress, no_addresses(width)),
                ("vectors", (1, 1), InvalidVectors, no_vectors(width, 64)))

    def test_wrong_inputs_ahead_of_too_many(self):
        self.fails_with(InvalidAddress, None, block, 16, None, UNITS)
        self.fails_with(InvalidWidth, 17, block, 17, None, UNITS)
        self.fails_with(InvalidVectors, UNITS, block, 15, 5, UNITS)


class AsBlock(Case):
    def check(self, width, group):
        moved = {group[0] ^ address for address in group}
        if all(one ^ other in moved for one in moved for other in moved):
            self.same(as_block(width, group), (group[0], least_basis(moved)))
        else:
            self.same(as_block(width, group), None)

    def test_all_groups_of_small_widths(self):
        for width in (1, 2, 3):
            for size in range(1, (1 << width) + 1):
                for group in itertools.combinations(range(1 << width), size):
                    self.check(width, group)

    def test_all_groups_of_up_to_four_addresses(self):
        for size in (1, 2, 3, 4):
            for group in itertools.combinations(range(16), size):
                self.check(4, group)

    def test_edges(self):
        for width in range(1, 17):
            top = (1 << width) - 1
            self.same(as_block(width, (top,)), (top, ()))
            self.same(as_block(width, (0,)), (0, ()))
            self.same(as_block(width, (0, top)), (0, (top,)))
        self.same(as_block(6, tuple(range(64))), (0, UNITS[:6]))
        self.same(as_block(16, tuple(range(65472, 65536))), (65472, UNITS[:6]))
        self.same(as_block(16, tuple(range(65471, 65535))), None)
        self.same(as_block(16, tuple(range(63))), None)

    def test_one_address_changed(self):
        whole = block(8, 200, (3, 12, 48, 64))
        for address in whole:
            others = set(whole) - {address}
            self.same(as_block(8, tuple(sorted(others))), None)
            self.same(as_block(8, tuple(sorted(others | {address ^ 128}))), None)

    def test_by_name(self):
        self.same(as_block(group=(1, 5, 9, 13), width=4), (1, (4, 8)))

    def test_wrong_inputs(self):
        for width in (1, 6, 7, 16):
            self.refuses(
                as_block, ("width", width, InvalidWidth, NO_WIDTHS), ("group", (0, 1), InvalidGroup, no_group(width)))


if __name__ == "__main__":
    unittest.main()
