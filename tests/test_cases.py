import itertools
import random
import unittest

from tests.support import NESTED, NO_BITS, NO_INTS, NO_SMALL_WIDTHS, NO_TUPLES, Case, no_differences, odd
from xorbanks.cases import division, ends, free_map, shows_division
from xorbanks.conflicts import hidden
from xorbanks.counting import count_maps, least_bits
from xorbanks.errors import InvalidBits, InvalidDifferences, InvalidNumber, InvalidWidth

LINES = (1, 2, 3)


def next_banks(choice, bits):
    """The next banks after a choice, straight from the document."""
    new = 0
    for bank in choice:
        new += bank == 2 ** new
    return list(range(2 ** new)) + ([2 ** new] if new < bits else [])


def bank_by_choice(choice, address):
    bank = 0
    for index, chosen in enumerate(choice):
        if address >> index & 1:
            bank ^= chosen
    return bank


def is_division_by_hand(width, differences, bits, value, choice=()):
    """What the document calls a division, straight from its words."""
    if isinstance(value, bool):
        return False
    if isinstance(value, int):
        return value in differences and value < 2 ** len(choice) and bank_by_choice(choice, value) == 0
    if not isinstance(value, tuple) or len(choice) == width:
        return False
    banks = next_banks(choice, bits)
    return len(value) == len(banks) and all(
        is_division_by_hand(width, differences, bits, part, choice + (bank,)) for bank, part in zip(banks, value))


def changed(value, leaves):
    """A value with one place changed: a leaf, a branch left out, added, doubled or exchanged, or made a list."""
    if isinstance(value, int):
        yield from (leaf for leaf in leaves if leaf is not value)
        return
    yield list(value)
    yield value + (1,)
    yield value + ((),)
    yield (value,)
    for at, part in enumerate(value):
        yield value[:at] + value[at + 1:]
        yield value[:at] + (part,) + value[at:]
        for other in range(at):
            yield value[:other] + (part,) + value[other + 1:at] + (value[other],) + value[at + 1:]
        for other in changed(part, leaves):
            yield value[:at] + (other,) + value[at + 1:]


def questions():
    """All differences of small widths with up to a bit more than the width, and some of greater widths."""
    for width in (1, 2, 3):
        every = range(1, 1 << width)
        for size in range(1 << width):
            for differences in itertools.combinations(every, size):
                for bits in list(range(width + 2)) + [16]:
                    yield width, differences, bits
    chance = random.Random(17)
    for width in (4, 5, 6):
        top = (1 << width) - 1
        for size in (0, 1, 2, 5, width, 2 * width, top // 2, top - 1, top):
            differences = tuple(sorted(chance.sample(range(1, top + 1), size)))
            for bits in list(range(width + 1)) + [16]:
                yield width, differences, bits


def hard_questions():
    """Questions without a free map, whose divisions have many branches, with one bit less than needed."""
    for width, differences, _ in questions():
        needed = least_bits(width, differences)
        if needed > 0:
            yield width, differences, needed - 1


class Document(Case):
    def test_first_example(self):
        self.same(
            [shows_division(2, LINES, 1, (1, (2, 3))), shows_division(2, LINES, 1, (1, 2)), ends((1, (2, 3))),
             free_map(2, LINES, 1), division(2, LINES, 2)],
            [True, False, 3, None, None])

    def test_second_example(self):
        self.same(hidden(2, free_map(2, LINES, 2), LINES), ())


class EitherOr(Case):
    def check_map(self, width, differences, bits, masks):
        self.assertIsInstance(masks, tuple)
        self.same(len(masks), bits)
        for mask in masks:
            self.same(mask.__class__, int)
            self.assertIn(mask, range(1 << width))
        for difference in differences:
            self.assertTrue(any(odd(difference & mask) for mask in masks))

    def test_exactly_one(self):
        for width, differences, bits in questions():
            masks = free_map(width, differences, bits)
            value = division(width, differences, bits)
            self.assertNotEqual(masks is None, value is None)
            self.same(masks is not None, count_maps(width, differences, bits) > 0)
            if masks is not None:
                self.check_map(width, differences, bits, masks)
            else:
                self.same(shows_division(width, differences, bits, value), True)
                self.same(is_division_by_hand(width, differences, bits, value), True)

    def test_all_maps_one_by_one(self):
        for width in (1, 2, 3):
            for size in range(1 << width):
                for differences in itertools.combinations(range(1, 1 << width), size):
                    for bits in range(4):
                        some = any(
                            all(any(odd(d & mask) for mask in masks) for d in differences)
                            for masks in itertools.product(range(1 << width), repeat=bits))
                        self.same(free_map(width, differences, bits) is not None, some)

    def test_equal_calls(self):
        for width, differences, bits in ((3, (1, 2, 4, 7), 1), (4, (3, 5, 6), 2), (6, tuple(range(1, 64)), 5)):
            self.same(free_map(width, differences, bits), free_map(width, differences, bits))
            self.same(division(width, differences, bits), division(width, differences, bits))


class Edges(Case):
    def test_no_differences(self):
        for width in range(1, 7):
            for bits in (0, 1, width, 16):
                self.same(len(free_map(width, (), bits)), bits)
                self.same(division(width, (), bits), None)

    def test_no_bits(self):
        for width in range(1, 7):
            self.same(free_map(width, (), 0), ())
            top = (1 << width) - 1
            self.same(free_map(width, (top,), 0), None)
            value = division(width, (top,), 0)
            for _ in range(width):
                self.same(len(value), 1)
                value = value[0]
            self.same(value, top)

    def test_all_differences(self):
        for width in range(1, 7):
            every = tuple(range(1, 1 << width))
            for bits in range(17):
                self.same(free_map(width, every, bits) is None, bits < width)
                self.same(division(width, every, bits) is None, bits >= width)
            self.same(hidden(width, free_map(width, every, width), every), ())
            self.same(hidden(width, free_map(width, every, 16), every), ())

    def test_width_1(self):
        self.same(division(1, (1,), 0), (1,))
        self.same(free_map(1, (1,), 1), (1,))


class ShowsDivision(Case):
    def check(self, width, differences, bits, value):
        shown = shows_division(width, differences, bits, value)
        self.same(shown, is_division_by_hand(width, differences, bits, value))
        if shown:
            self.same(count_maps(width, differences, bits), 0)
        return shown

    def test_changed_divisions(self):
        refused = 0
        for width, differences, bits in hard_questions():
            value = division(width, differences, bits)
            if ends(value) < 40:
                leaves = (True, None, "1", [1], (), (1,), 0, -1, 1 << width) + tuple(range(1, 1 << width))
                for other in changed(value, leaves):
                    refused += not self.check(width, differences, bits, other)
        self.assertGreater(refused, 10000)

    def test_for_another_question(self):
        for width, differences, bits in hard_questions():
            value = division(width, differences, bits)
            if width < 4:
                for other in range(bits + 3):
                    self.check(width, differences, other, value)
                for at in range(len(differences)):
                    self.check(width, differences[:at] + differences[at + 1:], bits, value)
            if width < 6:
                self.check(width + 1, differences, bits, value)

    def test_changes_that_are_refused(self):
        good = (1, (2, 3))
        self.same(shows_division(2, LINES, 1, good), True)
        for value in (
                (1, (2, 2)), (1, (3, 3)), (1, (1, 3)), (2, (2, 3)), (3, (2, 3)), (1,), ((2, 3),), (1, (2,)), (1, (3,)),
                (1, (2, 3), 1), (1, (2, 3, 1)), ((2, 3), 1), (1, (3, 2)), (1, ()), ((), (2, 3)), ((1,), (2, 3)),
                (1, ((2,), 3)), (1, ((), 3)), (True, (2, 3)), (1, [2, 3]), [1, (2, 3)], (1, (2, "3")), (None, (2, 3)),
                (1, (2, 0)), (0, (2, 3)), (1, (2, 7)), (1, (2, -3)), 1, 2, 3, 0, (), (good,), (good, good), (1, good)):
            self.same(shows_division(2, LINES, 1, value), False)

    def test_a_difference_that_is_not_given(self):
        self.same(shows_division(2, (1, 2), 0, ((2,),)), True)
        self.same(shows_division(2, (1, 2), 0, ((3,),)), False)
        self.same(shows_division(2, (1, 2), 0, (1,)), True)
        self.same(shows_division(2, (1, 2), 0, (2,)), False)
        self.same(shows_division(2, (1, 2), 0, ((1,),)), True)
        self.same(shows_division(2, (2,), 0, (1,)), False)

    def test_a_choice_with_width_banks_has_no_next_bank(self):
        self.same(shows_division(1, (), 0, ((),)), False)
        self.same(shows_division(1, (1,), 0, ((),)), False)
        self.same(shows_division(1, (1,), 1, (1, ())), False)
        self.same(shows_division(1, (1,), 0, ((1,),)), False)
        self.same(shows_division(2, LINES, 2, (1, (2, 3, ()))), False)

    def test_all_small_values(self):
        leaves = [(), 0, 1, 2, 3, True]
        twice = leaves + [pair for size in (1, 2) for pair in itertools.product(leaves, repeat=size)]
        for differences in ((), (1,), (2,), (3,), (1, 2), (1, 3), (2, 3), LINES):
            for bits in (0, 1, 2):
                for size in (1, 2):
                    for value in itertools.product(twice, repeat=size):
                        self.check(2, differences, bits, value)

    def test_any_value(self):
        for width in (1, 6):
            for differences in ((), (1,), tuple(range(1, 1 << width))):
                for bits in (0, width, 16):
                    for value in NO_TUPLES + NO_INTS + (10 ** 40, -10 ** 40, 1 << width):
                        self.same(shows_division(width, differences, bits, value), False)
                        self.same(shows_division(width, differences, bits, (value,) * 2), False)

    def test_deep_values(self):
        for leaf in (1, None, True, "1"):
            value = leaf
            for _ in range(29):
                value = (value,)
            self.same(shows_division(6, (1,), 0, value), False)


class Ends(Case):
    def test_values(self):
        for value, count in (
                (0, 1), (5, 1), (-7, 1), (10 ** 40, 1), ((), 0), ((1,), 1), (((),), 0), ((1, 2, 3), 3),
                ((1, ((2, (3, ())), 4), (5,)), 5), (NESTED, 0)):
            self.same(ends(value), count)

    def test_30_deep(self):
        value = 3
        for depth in range(1, 31):
            value = (value, depth) if depth % 2 else (depth, value)
            self.same(ends(value), depth + 1)

    def test_of_divisions(self):
        def count(value):
            return 1 if isinstance(value, int) else sum(count(part) for part in value)

        for width, differences, bits in hard_questions():
            value = division(width, differences, bits)
            self.same(ends(value), count(value))

    def test_by_name(self):
        self.same(ends(value=(1, (2, 3))), 3)

    def test_wrong_values(self):
        bad = (True, False, None, "", "1", [], [1], {}, {1: 2}, [(1,)])
        for item in bad:
            deep = item
            for _ in range(28):
                deep = (1, deep)
            for value in (item, (item,), (1, item), (item, 1), ((1, 2), ((3, item), 4)), deep):
                self.fails_with(InvalidNumber, value, ends, value)
                self.fails_with(InvalidNumber, value, ends, value=value)


class WrongInputs(Case):
    def question(self, width):
        return (
            ("width", width, InvalidWidth, NO_SMALL_WIDTHS),
            ("differences", (1,), InvalidDifferences, no_differences(width)), ("bits", 1, InvalidBits, NO_BITS))

    def test_free_map_and_division(self):
        for width in (1, 6):
            self.refuses(free_map, *self.question(width))
            self.refuses(division, *self.question(width))

    def test_shows_division(self):
        for width in (1, 6):
            for value in ((1,), None, [1], "x"):
                def shown(width, differences, bits, value=value):
                    return shows_division(width, differences, bits, value)

                self.refuses(shown, *self.question(width))

    def test_by_name(self):
        self.same(shows_division(value=(1, (2, 3)), bits=1, differences=LINES, width=2), True)
        self.same(free_map(bits=1, differences=LINES, width=2), None)
        self.same(division(bits=2, differences=LINES, width=2), None)


if __name__ == "__main__":
    unittest.main()
