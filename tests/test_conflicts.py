import inspect
import itertools
import random
import unittest

from tests.support import NO_WIDTHS, Case, no_differences, no_groups, no_vectors, odd
from xorbanks.conflicts import conflicts, cycles, degrees, first_conflict, hidden, is_free
from xorbanks.errors import InvalidDifferences, InvalidGroups, InvalidMap, InvalidWidth

TILE = ((0, 1, 2, 3), (0, 4, 8, 12))
SWIZZLE = (5, 10)
UNITS = tuple(1 << bit for bit in range(16))
OF_GROUPS = (degrees, cycles, is_free, first_conflict)


def bank_by_hand(masks, address):
    return tuple(odd(address & mask) for mask in masks)


def sampled():
    """Maps and groups, the same in each run."""
    chance = random.Random(13)
    for width in (1, 2, 3, 4, 6, 10, 16):
        most = min(64, 1 << width)
        for size, many in itertools.product((0, 1, 2, 3, width, 16), (0, 1, 2, 4, 20)):
            masks = tuple(chance.randrange(1 << width) for _ in range(size))
            groups = tuple(
                tuple(sorted(chance.sample(range(1 << width), chance.choice((1, 2, most // 2 or 1, most)))))
                for _ in range(many))
            yield width, masks, groups


def all_small():
    """All maps of up to three masks with all groups of a width of 2, one and two at a time."""
    groups = [group for size in (1, 2, 3, 4) for group in itertools.combinations(range(4), size)]
    pairs = [(group,) for group in groups] + list(itertools.product(groups, groups))
    for size in range(4):
        for masks in itertools.product(range(4), repeat=size):
            for chosen in pairs:
                yield 2, masks, chosen


def first_of(width, masks, groups):
    return next(conflicts(width, masks, groups))


class Document(Case):
    def test_example(self):
        self.same(
            [degrees(4, (5,), TILE), cycles(4, SWIZZLE, TILE), is_free(4, SWIZZLE, TILE),
             first_conflict(4, (1, 2), TILE), hidden(4, (5,), (1, 2, 5, 6))],
            [(2, 2), 2, True, (1, 0, 4), (2, 5)])


class AgainstTheDefinitions(Case):
    def check(self, width, masks, groups):
        pairs = []
        most = []
        for index, group in enumerate(groups):
            banks = {address: bank_by_hand(masks, address) for address in group}
            pairs += [(index, a, b) for a, b in itertools.combinations(group, 2) if banks[a] == banks[b]]
            most.append(max(list(banks.values()).count(bank) for bank in banks.values()))
        self.assertEqual(pairs, sorted(pairs))
        self.same(list(conflicts(width, masks, groups)), pairs)
        self.same(first_conflict(width, masks, groups), pairs[0] if pairs else None)
        self.same(is_free(width, masks, groups), not pairs)
        self.same(degrees(width, masks, groups), tuple(most))
        self.same(cycles(width, masks, groups), sum(most))

    def test_sampled(self):
        for width, masks, groups in sampled():
            self.check(width, masks, groups)

    def test_all_of_a_small_width(self):
        for width, masks, groups in all_small():
            self.check(width, masks, groups)


class Edges(Case):
    def test_no_groups(self):
        for width in range(1, 17):
            for masks in ((), (1,), (0,) * 16):
                self.same(degrees(width, masks, ()), ())
                self.same(cycles(width, masks, ()), 0)
                self.same(is_free(width, masks, ()), True)
                self.same(list(conflicts(width, masks, ())), [])
                self.same(first_conflict(width, masks, ()), None)

    def test_groups_of_one_address(self):
        for width in range(1, 17):
            groups = (((1 << width) - 1,), (0,)) * 10
            self.same(degrees(width, (), groups), (1,) * 20)
            self.same(cycles(width, (), groups), 20)
            self.same(is_free(width, (), groups), True)
            self.same(first_conflict(width, (), groups), None)

    def test_empty_map(self):
        group = tuple(range(65472, 65536))
        pairs = [(0,) + pair for pair in itertools.combinations(group, 2)]
        self.same(list(conflicts(16, (), (group,))), pairs)
        self.same(degrees(16, (), (group,)), (64,))
        self.same(cycles(16, (), (group,) * 20), 1280)
        self.same(is_free(16, (), (group,)), False)
        self.same(first_conflict(16, (), ((7,), group)), (1, 65472, 65473))

    def test_16_masks(self):
        group = tuple(range(65472, 65536))
        self.same(degrees(16, UNITS, (group,)), (1,))
        self.same(is_free(16, UNITS, (group,) * 20), True)
        self.same(degrees(16, (65535,) * 16, (group, (0, 65535))), (32, 2))
        self.same(degrees(16, UNITS[6:], (group, (0, 1024), (0, 1))), (64, 1, 2))

    def test_a_conflict_in_the_last_group_alone(self):
        groups = ((0, 1),) * 19 + ((0, 1, 2),)
        self.same(is_free(4, (1,), groups), False)
        self.same(list(conflicts(4, (1,), groups)), [(19, 0, 2)])
        self.same(degrees(4, (1,), groups), (1,) * 19 + (2,))

    def test_equal_groups_count_each(self):
        self.same(list(conflicts(4, (), ((3, 9), (3, 9)))), [(0, 3, 9), (1, 3, 9)])


class Hidden(Case):
    def test_against_the_definition(self):
        chance = random.Random(14)
        for width in (1, 2, 4, 6, 10):
            for size in (0, 1, 2, 3, width, 16):
                masks = tuple(chance.randrange(1 << width) for _ in range(size))
                for many in (0, 1, (1 << width) // 2, (1 << width) - 1):
                    given = tuple(sorted(chance.sample(range(1, 1 << width), many)))
                    expected = tuple(d for d in given if not any(bank_by_hand(masks, d)))
                    self.same(hidden(width, masks, given), expected)

    def test_all_differences_of_a_width(self):
        for width in (1, 6, 16):
            every = tuple(range(1, 1 << width))
            self.same(hidden(width, (), every), every)
            self.same(hidden(width, (0,) * 16, every), every)
            self.same(hidden(width, UNITS[:width], every), ())
            self.same(hidden(width, UNITS[1:width], every), (1,))
            self.same(hidden(width, (), ()), ())

    def test_by_name(self):
        self.same(hidden(differences=(1, 2, 5, 6), masks=(5,), width=4), (2, 5))


class Generator(Case):
    def test_is_a_generator(self):
        self.assertTrue(inspect.isgeneratorfunction(conflicts))
        self.assertTrue(inspect.isgenerator(conflicts(4, (), TILE)))

    def test_errors_with_the_first_item(self):
        for arguments, error in (
                ((0, (), ()), InvalidWidth), ((True, [], []), InvalidWidth), ((4, [1], ()), InvalidMap),
                ((4, (16,), None), InvalidMap), ((4, (), [(1,)]), InvalidGroups), ((4, (), ((1,),
                (2, 1))), InvalidGroups)):
            made = conflicts(*arguments)
            with self.assertRaises(error) as caught:
                next(made)
            self.assertIs(caught.exception.__class__, error)

    def test_items_one_by_one(self):
        made = conflicts(4, (1, 2), TILE)
        self.same(next(made), (1, 0, 4))
        self.same(next(made), (1, 0, 8))
        self.same(list(made), [(1, 0, 12), (1, 4, 8), (1, 4, 12), (1, 8, 12)])

    def test_two_at_once(self):
        one, other = conflicts(4, (), TILE), conflicts(4, (5,), TILE)
        self.same([next(one), next(other), next(one), next(other)], [(0, 0, 1), (0, 0, 2), (0, 0, 2), (0, 1, 3)])


class WrongInputs(Case):
    def test_of_groups(self):
        for width in (1, 6, 16):
            for function in OF_GROUPS + (first_of,):
                self.refuses(
                    function, ("width", width, InvalidWidth, NO_WIDTHS),
                    ("masks", (1, 0), InvalidMap, no_vectors(width, 16)),
                    ("groups", ((0, 1),), InvalidGroups, no_groups(width)))

    def test_hidden(self):
        for width in (1, 6, 16):
            self.refuses(
                hidden, ("width", width, InvalidWidth, NO_WIDTHS),
                ("masks", (1, 0), InvalidMap, no_vectors(width, 16)),
                ("differences", (1,), InvalidDifferences, no_differences(width)))


class Calls(Case):
    def test_by_name(self):
        self.same(degrees(groups=TILE, masks=(5,), width=4), (2, 2))
        self.same(cycles(groups=TILE, masks=SWIZZLE, width=4), 2)
        self.same(is_free(groups=TILE, masks=SWIZZLE, width=4), True)
        self.same(first_conflict(groups=TILE, masks=(1, 2), width=4), (1, 0, 4))
        self.same(list(conflicts(groups=((1, 2),), masks=(), width=4)), [(0, 1, 2)])


if __name__ == "__main__":
    unittest.main()
