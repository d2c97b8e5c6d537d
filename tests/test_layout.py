import inspect
import itertools
import random
import unittest

from tests.support import (
    NO_INTS, NO_NAMES, NO_WIDTHS, Case, history_of, no_addresses, no_group, no_groups, no_vectors, odd, state_of)
from xorbanks.conflicts import conflicts, cycles, is_free
from xorbanks.errors import (
    InvalidAddress, InvalidGroup, InvalidGroups, InvalidIndex, InvalidMap, InvalidName, InvalidWidth, NothingToUndo,
    TooMany, UnknownName)
from xorbanks.extending import further_bits
from xorbanks.groups import differences
from xorbanks.layout import Layout

TILE = ((0, 1, 2, 3), (0, 4, 8, 12))
SWIZZLE = (5, 10)
LETTERS = "abcdefghijklmnopqrstuvwxyz"


class Record:
    """What a layout must tell, kept by the test itself: each state is (masks, dict of groups)."""

    def __init__(self, width, masks=(), groups=()):
        self.width = width
        self.states = [(masks, dict(groups))]

    def state(self):
        masks, groups = self.states[-1]
        pairs = tuple(sorted(groups.items()))
        names = tuple(name for name, _ in pairs)
        return (
            self.width, masks, len(masks), names, tuple(group for _, group in pairs), pairs, len(self.states) - 1)

    def change(self, masks=None, **groups):
        """A new state with other masks, or with groups put (a group) or dropped (None)."""
        now, kept = self.states[-1]
        kept = {**kept, **groups}
        self.states.append((
            now if masks is None else masks, {name: group for name, group in kept.items() if group is not None}))


def no_index(bits):
    return (bits, bits + 1, -1, -bits, 10 ** 30, -10 ** 30) + NO_INTS if bits else (0, 1, -1) + NO_INTS


class Document(Case):
    def test_example(self):
        layout = Layout.of_groups(4, TILE)
        self.same(
            [layout.names(), layout.cycles(), layout.missing_bits(), layout.masks], [("a", "b"), 8, 2, ()])
        layout.add_mask(5)
        self.same(
            [list(layout.conflicts()), layout.drop_mask(0), layout.changes(), layout.undo(), layout.masks, layout.bits],
            [[("a", 0, 2), ("a", 1, 3), ("b", 0, 8), ("b", 4, 12)], 5, 2, None, (5,), 1])


class Making(Case):
    def test_new(self):
        for width in range(1, 17):
            top = (1 << width) - 1
            for masks in ((), (0,), (top, 1, 1), (top,) * 16):
                self.same(state_of(Layout(width, masks=masks)), Record(width, masks).state())
                self.same(state_of(Layout(masks=masks, width=width)), Record(width, masks).state())
            self.same(state_of(Layout(width)), Record(width).state())

    def test_of_groups(self):
        for width in (1, 6, 16):
            top = (1 << width) - 1
            for many in range(21):
                groups = tuple((0, top)[index % 2:] for index in range(many))
                layout = Layout.of_groups(width, groups)
                self.same(state_of(layout), Record(width, (), zip(LETTERS, groups)).state())
                self.same(layout.names(), tuple(LETTERS[:many]))
                self.same(layout.groups(), groups)
                self.fails(NothingToUndo, layout.undo)
        self.same(Layout.of_groups(4, ((0,),) * 20).names()[-1], "t")
        self.same(Layout.of_groups(groups=TILE, width=4).groups(), TILE)

    def test_masks_by_name_only(self):
        with self.assertRaises(TypeError):
            Layout(4, (5,))

    def test_read_only(self):
        layout = Layout(4, masks=SWIZZLE)
        for name in ("width", "masks", "bits"):
            with self.assertRaises(AttributeError):
                setattr(layout, name, 1)
            with self.assertRaises(AttributeError):
                delattr(layout, name)
        self.same((layout.width, layout.masks, layout.bits), (4, SWIZZLE, 2))


class Changes(Case):
    def check(self, layout, record):
        self.same(state_of(layout), record.state())

    def test_each_method(self):
        layout, record = Layout(4), Record(4)
        self.check(layout, record)
        self.same(layout.set_masks(SWIZZLE), None)
        record.change(SWIZZLE)
        self.check(layout, record)
        self.same(layout.add_mask(0), None)
        record.change((5, 10, 0))
        self.check(layout, record)
        self.same(layout.drop_mask(1), 10)
        record.change((5, 0))
        self.check(layout, record)
        self.same(layout.put("row", (0, 1, 2, 3)), None)
        record.change(row=(0, 1, 2, 3))
        self.check(layout, record)
        self.same(layout.put("col", (0, 4)), None)
        record.change(col=(0, 4))
        self.check(layout, record)
        self.same(layout.drop("row"), (0, 1, 2, 3))
        record.change(row=None)
        self.check(layout, record)
        for _ in range(6):
            self.same(layout.undo(), None)
            record.states.pop()
            self.check(layout, record)
        for _ in range(2):
            self.fails(NothingToUndo, layout.undo)
            self.check(layout, record)

    def test_a_group_replaced_and_the_same_change_twice(self):
        layout, record = Layout(4, masks=(1,)), Record(4, (1,))
        for group in ((0, 1), (0, 2), (0, 2)):
            layout.put("a", group)
            record.change(a=group)
            self.check(layout, record)
        for _ in range(2):
            layout.set_masks((1,))
            record.change((1,))
            self.check(layout, record)
        self.same(layout.changes(), 5)
        for _ in range(5):
            layout.undo()
            record.states.pop()
            self.check(layout, record)
        self.fails(NothingToUndo, layout.undo)

    def test_undone_changes_are_gone(self):
        layout = Layout(4)
        layout.add_mask(1)
        layout.undo()
        layout.add_mask(2)
        self.same((layout.masks, layout.changes()), ((2,), 1))
        layout.undo()
        self.same((layout.masks, layout.changes()), ((), 0))

    def test_drop_mask_at_each_place(self):
        for index in range(16):
            masks = tuple(range(16))
            layout = Layout(4, masks=masks)
            self.same(layout.drop_mask(index), index)
            self.same(layout.masks, masks[:index] + masks[index + 1:])

    def test_long_ways(self):
        chance = random.Random(61)
        for width in (1, 4, 16):
            layout, record = Layout(width), Record(width)
            for _ in range(600):
                self.step(chance, layout, record)
                self.check(layout, record)
            self.same(history_of(layout), [self.earlier(record, count) for count in range(len(record.states))])

    def earlier(self, record, count):
        other = Record(record.width)
        other.states = record.states[:len(record.states) - count]
        return other.state()

    def step(self, chance, layout, record):
        """Make one change, or a call that is refused, in the layout and in the record."""
        width = record.width
        masks, groups = record.states[-1]
        name = chance.choice(["a", "b", "zzzzzzzz", "row", "col"])
        group = tuple(sorted(chance.sample(range(1 << width), chance.randrange(1, 3))))
        mask = chance.randrange((1 << width) + 1)
        kind = chance.randrange(6)
        if kind == 0 and mask < 1 << width and len(masks) < 16:
            layout.add_mask(mask)
            record.change(masks + (mask,))
        elif kind == 0:
            self.fails(InvalidAddress if mask == 1 << width else TooMany, layout.add_mask, mask)
        elif kind == 1 and masks:
            at = chance.randrange(len(masks))
            self.same(layout.drop_mask(at), masks[at])
            record.change(masks[:at] + masks[at + 1:])
        elif kind == 1:
            self.fails_with(InvalidIndex, mask, layout.drop_mask, mask)
        elif kind == 2:
            layout.put(name, group)
            record.change(**{name: group})
        elif kind == 3 and name in groups:
            self.same(layout.drop(name), groups[name])
            record.change(**{name: None})
        elif kind == 3:
            self.fails_with(UnknownName, name, layout.drop, name)
        elif kind == 4 and chance.randrange(4) == 0:
            layout.set_masks(group)
            record.change(group)
        elif kind == 5 and len(record.states) > 1:
            layout.undo()
            record.states.pop()


class Limits(Case):
    def test_sixteen_masks_and_one_more(self):
        layout = Layout(16)
        for mask in range(16):
            layout.add_mask(mask)
        self.same(layout.bits, 16)
        before = state_of(layout)
        for mask in (0, 1, 65535):
            self.same(self.fails(TooMany, layout.add_mask, mask).value, 16)
            self.same(state_of(layout), before)
        self.fails_with(InvalidAddress, 65536, layout.add_mask, 65536)
        layout.drop_mask(3)
        layout.add_mask(65535)
        self.same(layout.masks, tuple(index for index in range(16) if index != 3) + (65535,))

    def test_twenty_groups_and_one_more(self):
        layout = Layout(6)
        for letter in LETTERS[:20]:
            layout.put(letter, (0, 1))
        before = state_of(layout)
        for name in ("u", "aa", "zzzzzzzz"):
            self.same(self.fails(TooMany, layout.put, name, (0,)).value, 20)
            self.same(state_of(layout), before)
        self.fails_with(InvalidName, "A", layout.put, "A", (0,))
        self.fails_with(InvalidGroup, (), layout.put, "u", ())
        layout.put("t", (5,))
        self.same(layout.groups(), ((0, 1),) * 19 + ((5,),))
        layout.drop("a")
        layout.put("u", (6,))
        self.same((layout.names()[0], layout.names()[-1], len(layout.groups())), ("b", "u", 20))

    def test_great_groups_and_long_names(self):
        layout = Layout(16)
        layout.put("abcdefgh", tuple(range(64)))
        layout.put("z", tuple(range(65472, 65536)))
        self.same(layout.cycles(), 128)
        self.same(layout.names(), ("abcdefgh", "z"))

    def test_names_in_order(self):
        layout = Layout(4)
        for name in ("b", "ab", "z", "a", "aab", "zz", "ba"):
            layout.put(name, (1,))
        self.same(layout.names(), ("a", "aab", "ab", "b", "ba", "z", "zz"))


class Answers(Case):
    def check(self, width, masks, named):
        layout = Layout(width, masks=masks)
        for name, group in named:
            layout.put(name, group)
        groups = layout.groups()
        names = layout.names()
        self.same(
            list(layout.conflicts()),
            [(names[at], one, other) for at, one, other in conflicts(width, masks, groups)])
        self.same(layout.is_free(), is_free(width, masks, groups))
        self.same(layout.cycles(), cycles(width, masks, groups))
        if width <= 6:
            self.same(layout.missing_bits(), further_bits(width, masks, differences(width, groups)))
        else:
            self.same(self.fails(InvalidWidth, layout.missing_bits).value, width)
        self.same(layout.changes(), len(named))
        other = Layout.of_groups(width, groups)
        other.set_masks(masks)
        self.same((other.is_free(), other.cycles()), (layout.is_free(), layout.cycles()))

    def test_beside_the_functions(self):
        chance = random.Random(62)
        for width in (1, 2, 4, 6, 7, 16):
            for size in (0, 1, 2, width, 16):
                for many in (0, 1, 3, 20):
                    masks = tuple(chance.randrange(1 << width) for _ in range(size))
                    names = chance.sample(list(LETTERS) + ["row", "col", "zzzzzzzz"], many)
                    named = [
                        (name, tuple(sorted(chance.sample(range(1 << width), chance.randrange(1, min(9, 1 << width))))))
                        for name in names]
                    self.check(width, masks, named)

    def test_conflicts_in_the_order_of_the_names(self):
        layout = Layout(4, masks=(1,))
        layout.put("z", (0, 1, 2, 4))
        layout.put("ab", (3, 5))
        layout.put("b", (0, 1))
        self.same(list(layout.conflicts()), [("ab", 3, 5), ("z", 0, 2), ("z", 0, 4), ("z", 2, 4)])

    def test_conflicts_is_a_generator(self):
        self.assertTrue(inspect.isgeneratorfunction(Layout.conflicts))
        one, other = Layout.of_groups(4, TILE).conflicts(), Layout.of_groups(4, TILE[1:]).conflicts()
        self.same([next(one), next(other), next(one)], [("a", 0, 1), ("a", 0, 4), ("a", 0, 2)])
        self.same(list(Layout(4).conflicts()), [])

    def test_missing_bits(self):
        for width in range(1, 17):
            layout = Layout(width)
            if width <= 6:
                self.same(layout.missing_bits(), 0)
                layout.put("a", (0, 1))
                self.same(layout.missing_bits(), 1)
                layout.set_masks((0,) * 16)
                self.same(layout.missing_bits(), 1)
                layout.set_masks((1,))
                self.same(layout.missing_bits(), 0)
            else:
                self.same(self.fails(InvalidWidth, layout.missing_bits).value, width)
                layout.put("a", (0,))
                self.same(self.fails(InvalidWidth, layout.missing_bits).value, width)

    def test_by_hand(self):
        for masks in itertools.product(range(8), repeat=2):
            layout = Layout(3, masks=masks)
            layout.put("a", (0, 3, 5))
            layout.put("b", (1, 6))
            banks = {address: tuple(odd(address & mask) for mask in masks) for address in range(8)}
            pairs = [(name, one, other) for name, one, other in (("a", 0, 3), ("a", 0, 5), ("a", 3, 5), ("b", 1, 6))
                     if banks[one] == banks[other]]
            self.same(list(layout.conflicts()), pairs)
            self.same(layout.is_free(), not pairs)


class Copies(Case):
    def test_share_nothing(self):
        layout = Layout(4, masks=(1,))
        layout.add_mask(2)
        layout.put("a", (0, 1))
        other = layout.copy()
        third = other.copy()
        self.same(history_of(other), history_of(layout))
        before = history_of(layout)
        other.set_masks(())
        other.put("a", (0, 2))
        other.put("b", (0, 3))
        self.same(history_of(layout), before)
        after = history_of(other)
        layout.undo()
        layout.undo()
        self.fails(NothingToUndo, layout.undo)
        layout.add_mask(9)
        self.same(history_of(other), after)
        self.same(history_of(third), before)

    def test_go_back_as_far(self):
        layout = Layout(4)
        for mask in range(10):
            layout.add_mask(mask)
        other = layout.copy()
        for count in range(9, -1, -1):
            self.same(other.undo(), None)
            self.same((other.masks, other.changes()), (tuple(range(count)), count))
        self.fails(NothingToUndo, other.undo)
        self.same((layout.bits, layout.changes()), (10, 10))


class Equality(Case):
    def equal(self, one, other):
        self.same([one == other, other == one, one != other, other != one], [True, True, False, False])

    def different(self, one, other):
        self.same([one == other, other == one, one != other, other != one], [False, False, True, True])

    def test_layouts(self):
        layout = Layout.of_groups(4, TILE)
        layout.set_masks(SWIZZLE)
        self.equal(layout, layout)
        self.equal(layout, layout.copy())
        same = Layout(4, masks=SWIZZLE)
        same.put("b", TILE[1])
        self.different(layout, same)
        same.put("a", TILE[0])
        self.equal(layout, same)
        for change in (("c", TILE[0]), ("a", TILE[1]), ("b", (0, 4, 8))):
            other = layout.copy()
            other.put(*change)
            self.different(layout, other)
            other.undo()
            self.equal(layout, other)
        other = layout.copy()
        other.drop("a")
        other.put("c", TILE[0])
        self.different(layout, other)
        for masks in ((5,), (10, 5), (5, 10, 0), ()):
            other = layout.copy()
            other.set_masks(masks)
            self.different(layout, other)
        for width in (5, 16):
            other = Layout.of_groups(width, TILE)
            other.set_masks(SWIZZLE)
            self.different(layout, other)
        self.different(Layout(4), Layout(5))
        self.equal(Layout(4), Layout.of_groups(4, ()))

    def test_other_values(self):
        layout = Layout(4)
        for value in (4, None, True, "width 4\nmasks -", (), (4, ()), [], {}, (4, (), ()), ((), ()), Record(4), Layout):
            self.different(layout, value)


class WrongInputs(Case):
    def test_new(self):
        def new(width, masks):
            return Layout(width, masks=masks)

        for width in (1, 6, 16):
            self.refuses(
                new, ("width", width, InvalidWidth, NO_WIDTHS), ("masks", (1, 0), InvalidMap, no_vectors(width, 16)))
            self.refuses(Layout, ("width", width, InvalidWidth, NO_WIDTHS))
            self.refuses(
                Layout.of_groups, ("width", width, InvalidWidth, NO_WIDTHS),
                ("groups", ((0, 1),), InvalidGroups, no_groups(width)))

    def test_methods_change_nothing_when_they_refuse(self):
        for width in (1, 6, 16):
            for masks in ((), (1,), (1, 0, 1), (1,) * 16):
                layout = Layout(width, masks=masks)
                layout.put("b", (0, 1))
                layout.put("c", (0,))
                before = history_of(layout)
                self.refuses(layout.set_masks, ("masks", (), InvalidMap, no_vectors(width, 16)))
                self.refuses(layout.add_mask, ("mask", 0, InvalidAddress, no_addresses(width)))
                self.refuses(layout.drop_mask, ("index", 0, InvalidIndex, no_index(len(masks))))
                self.refuses(
                    layout.put, ("name", "b", InvalidName, NO_NAMES), ("group", (1,), InvalidGroup, no_group(width)))
                self.refuses(layout.drop, ("name", "b", UnknownName, NO_NAMES + ("a", "bb", "zzzzzzzz")))
                self.refuses(layout.group, ("name", "b", UnknownName, NO_NAMES + ("a", "bb", "zzzzzzzz")))
                self.same(history_of(layout), before)

    def test_by_name(self):
        layout = Layout(width=4)
        layout.set_masks(masks=(1, 2))
        layout.add_mask(mask=3)
        self.same(layout.drop_mask(index=0), 1)
        layout.put(group=(0, 1), name="a")
        self.same(layout.group(name="a"), (0, 1))
        self.same(layout.drop(name="a"), (0, 1))
        self.same(layout.changes(), 5)

    def test_no_groups(self):
        layout = Layout(4)
        self.fails_with(UnknownName, "a", layout.drop, "a")
        self.fails_with(UnknownName, "a", layout.group, "a")
        self.same((layout.names(), layout.groups(), layout.changes()), ((), (), 0))


if __name__ == "__main__":
    unittest.main()
