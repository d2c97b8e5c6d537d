import unittest

from tests.support import NESTED, NO_INTS, NO_NAMES, NO_TUPLES, Case, history_of, no_group, no_vectors
from xorbanks.errors import (
    InvalidAddress, InvalidGroup, InvalidIndex, InvalidLine, InvalidMap, InvalidName, NoLayout, NothingToUndo, TooMany,
    UnknownName)
from xorbanks.layout import Layout
from xorbanks.trials import Trial, held_in, tried

TILE = ((0, 1, 2, 3), (0, 4, 8, 12))
SWIZZLE = (5, 10)
NO_LAYOUTS = NO_TUPLES + NO_INTS + (4, Layout, "width 4\nmasks -", (4, ()))


def sample():
    """A layout with four changes that can be taken back and some that were."""
    layout = Layout.of_groups(4, TILE)
    layout.add_mask(3)
    layout.undo()
    layout.add_mask(5)
    layout.put("c", (0, 5))
    layout.drop("b")
    layout.set_masks(SWIZZLE)
    return layout


def change_all(layout):
    """One call of each method that changes a layout."""
    layout.set_masks((1, 2, 3))
    layout.add_mask(4)
    layout.drop_mask(1)
    layout.put("zz", (1, 2))
    layout.put("a", (9,))
    layout.drop("c")


def go_back(layout, further):
    for _ in range(layout.changes() if further is None else further):
        layout.undo()


class Stopped(Exception):
    pass


class Trials(Case):
    def setUp(self):
        self.layout = sample()
        self.before = history_of(self.layout)
        self.copy = self.layout.copy()

    def tearDown(self):
        self.same(history_of(self.layout), self.before)
        self.same(self.layout == self.copy, True)
        # Going back step by step, and on from there, in the layout itself.
        for state in self.before[1:]:
            self.layout.undo()
            self.same(self.layout.masks, state[1])
        self.fails(NothingToUndo, self.layout.undo)
        self.layout.add_mask(7)
        self.same(self.layout.changes(), 1)


class Block(Trials):
    def test_left_as_usual(self):
        with Trial(self.layout) as held:
            self.assertIs(held, self.layout)
            self.same(history_of(held), self.before)
            change_all(held)
            self.same(held.masks, (1, 3, 4))
            self.same(held.names(), ("a", "zz"))
            self.same(held.changes(), 10)

    def test_left_without_changes(self):
        with Trial(self.layout):
            pass

    def test_left_by_an_exception(self):
        for error in (Stopped, KeyboardInterrupt, GeneratorExit):
            made = error("x")
            with self.assertRaises(error) as caught:
                with Trial(self.layout) as held:
                    change_all(held)
                    raise made
            self.assertIs(caught.exception, made)
            self.same(history_of(self.layout), self.before)

    def test_left_by_a_refused_change(self):
        with self.assertRaises(InvalidIndex):
            with Trial(self.layout) as held:
                change_all(held)
                held.drop_mask(16)

    def test_left_by_return_break_and_continue(self):
        def leave(layout):
            with Trial(layout) as held:
                change_all(held)
                return held.masks

        self.same(leave(self.layout), (1, 3, 4))
        for leaving in (True, False):
            for _ in range(2):
                with Trial(self.layout) as held:
                    change_all(held)
                    if leaving:
                        break
                    continue

    def test_undo_inside(self):
        for further in (0, 1, 2, 4, None):
            with Trial(self.layout) as held:
                change_all(held)
                go_back(held, further)
            self.same(history_of(self.layout), self.before)

    def test_undo_further_back_than_the_beginning(self):
        with Trial(self.layout) as held:
            go_back(held, None)
            self.fails(NothingToUndo, held.undo)
            self.same((held.masks, held.names(), held.changes()), ((), ("a", "b"), 0))
            change_all_of_two(held)
            self.same(held.changes(), 3)

    def test_within_trials(self):
        with Trial(self.layout) as held:
            held.add_mask(1)
            held.undo()
            held.undo()
            middle = history_of(held)
            with Trial(held) as inner:
                self.assertIs(inner, self.layout)
                go_back(inner, None)
                inner.put("q", (3,))
                with self.assertRaises(Stopped):
                    with Trial(inner):
                        change_all_of_two(inner)
                        raise Stopped()
                self.same(inner.names(), ("a", "b", "q"))
            self.same(history_of(held), middle)
            held.set_masks(())

    def test_the_same_trial_again(self):
        trial = Trial(self.layout)
        for _ in range(3):
            with trial as held:
                change_all(held)
            self.same(history_of(self.layout), self.before)
        with trial as held:
            held.add_mask(1)
            middle = history_of(held)
            with trial as inner:
                go_back(inner, None)
            self.same(history_of(held), middle)

    def test_begins_with_the_block(self):
        trial = Trial(self.layout)
        self.layout.add_mask(1)
        with trial as held:
            self.same(held.masks, (5, 10, 1))
            held.undo()
            held.undo()
        self.same((self.layout.masks, self.layout.changes()), ((5, 10, 1), 5))
        self.layout.undo()

    def test_copies(self):
        with Trial(self.layout) as held:
            other = held.copy()
            held.add_mask(1)
            changed = held.copy()
        self.same(history_of(other), self.before)
        self.same((changed.masks, changed.changes()), ((5, 10, 1), 5))
        changed.undo()
        self.same(history_of(changed), self.before)
        go_back(other, None)
        with Trial(other) as held:
            self.layout.add_mask(2)
            self.same((held.masks, held.changes()), ((), 0))
        self.same(self.layout.masks, (5, 10, 2))
        self.layout.undo()

    def test_two_layouts(self):
        other = Layout(6)
        with Trial(self.layout) as one, Trial(other) as second:
            change_all(one)
            second.add_mask(63)
        self.same((other.masks, other.changes()), ((), 0))

    def test_no_layout(self):
        for value in NO_LAYOUTS:
            self.fails(NoLayout, Trial, value)
            self.fails(NoLayout, Trial, layout=value)
        with Trial(layout=self.layout) as held:
            held.undo()


def change_all_of_two(layout):
    layout.add_mask(6)
    layout.drop("a")
    layout.set_masks((2,) * 16)


class Held(Trials):
    def test_changes_and_returns(self):
        def look(layout):
            self.assertIs(layout, self.layout)
            change_all(layout)
            return [layout.masks, layout.names()]

        self.same(held_in(self.layout, look), [(1, 3, 4), ("a", "zz")])
        self.same(held_in(look=look, layout=self.layout), [(1, 3, 4), ("a", "zz")])

    def test_returns_nothing(self):
        self.same(held_in(self.layout, change_all), None)
        self.same(held_in(self.layout, lambda layout: go_back(layout, None)), None)
        self.same(held_in(self.layout, lambda layout: None), None)

    def test_methods(self):
        self.same(held_in(self.layout, Layout.undo), None)
        self.same(held_in(self.layout, Layout.cycles), self.layout.cycles())
        self.assertIs(held_in(self.layout, lambda layout: layout), self.layout)

    def test_raises(self):
        made = Stopped("x")

        def look(layout):
            go_back(layout, None)
            change_all_of_two(layout)
            raise made

        with self.assertRaises(Stopped) as caught:
            held_in(self.layout, look)
        self.assertIs(caught.exception, made)
        self.fails_with(InvalidIndex, 9, held_in, self.layout, lambda layout: layout.drop_mask(9))

    def test_within(self):
        def look(layout):
            layout.undo()
            inner = held_in(layout, lambda same: go_back(same, None) or same.changes())
            return (inner, layout.changes(), tried(layout, (("set_masks", ()),)), layout.masks)

        self.same(held_in(self.layout, look), (0, 3, ((), 6, False), (5,)))

    def test_no_layout(self):
        def look(layout):
            raise Stopped()

        for value in NO_LAYOUTS:
            self.fails(NoLayout, held_in, value, look)


class Tried(Trials):
    def fails_with(self, *arguments, **named):
        super().fails_with(*arguments, **named)
        self.same(history_of(self.layout), self.before)

    def test_document(self):
        layout = Layout.of_groups(4, TILE)
        self.same(tried(layout, (("set_masks", SWIZZLE), ("put", "c", (0, 5)))), ((5, 10), 4, False))
        self.same((layout.masks, layout.changes(), layout.names()), ((), 0, ("a", "b")))

    def test_no_edits(self):
        self.same(tried(self.layout, ()), (SWIZZLE, 3, False))
        self.same(tried(Layout(16), ()), ((), 0, True))

    def test_each_edit(self):
        for edit, expected in (
                (("set_masks", ()), ((), 6, False)), (("set_masks", (1, 6)), ((1, 6), 2, True)),
                (("add_mask", 1), ((5, 10, 1), 2, True)), (("drop_mask", 1), ((5,), 4, False)),
                (("put", "c", (0, 1)), (SWIZZLE, 2, True)), (("put", "d", (1,)), (SWIZZLE, 4, False)),
                (("drop", "c"), (SWIZZLE, 1, True))):
            self.same(tried(self.layout, (edit,)), expected)
            self.same(tried(edits=(edit,), layout=self.layout), expected)
            self.same(history_of(self.layout), self.before)

    def test_one_after_the_other(self):
        self.same(
            tried(self.layout, (
                ("drop", "c"), ("put", "c", (0, 4, 8, 12)), ("drop_mask", 0), ("add_mask", 5), ("add_mask", 0))),
            ((10, 5, 0), 2, True))
        self.same(tried(self.layout, (("add_mask", 0),) * 14)[0], SWIZZLE + (0,) * 14)

    def test_a_refused_edit(self):
        good = (("add_mask", 1), ("drop", "a"))
        for edit, error, value in (
                (("drop", "b"), UnknownName, "b"), (("drop", "a"), UnknownName, "a"),
                (("drop_mask", 3), InvalidIndex, 3), (("add_mask", 16), InvalidAddress, 16),
                (("put", "A", ()), InvalidName, "A")):
            self.fails_with(error, value, tried, self.layout, good + (edit,))
            self.fails_with(error, value, tried, self.layout, good + (edit, ("drop", "x")))
        self.same(self.fails(TooMany, tried, self.layout, (("add_mask", 0),) * 15).value, 16)
        self.same(self.fails(TooMany, tried, self.layout, tuple(
            ("put", letter, (1,)) for letter in "bdefghijklmnopqrstuv")).value, 20)

    def test_arguments_of_any_kind(self):
        for wrong in no_vectors(4, 16):
            self.fails_with(InvalidMap, wrong, tried, self.layout, (("add_mask", 1), ("set_masks", wrong)))
        for wrong in no_group(4):
            self.fails_with(InvalidGroup, wrong, tried, self.layout, (("drop", "a"), ("put", "a", wrong)))
        for wrong in NO_NAMES:
            self.fails_with(InvalidName, wrong, tried, self.layout, (("drop", "a"), ("put", wrong, None)))
            self.fails_with(UnknownName, wrong, tried, self.layout, (("drop", "a"), ("drop", wrong)))
        for wrong in NO_INTS:
            self.fails_with(InvalidIndex, wrong, tried, self.layout, (("drop_mask", wrong), ("drop_mask", 5)))
            self.fails_with(InvalidAddress, wrong, tried, self.layout, (("add_mask", wrong),))

    def test_values_that_are_no_edits(self):
        strange = (
            (), ("undo",), ("copy",), ("names",), ("group", "a"), ("changes",), ("Set_masks", ()), ("set_masks ", ()),
            (" drop", "a"), ("", 1), (None, 1), (True, 1), (1, 1), (("drop",), "a"), (["drop"], "a"), ({}, 1),
            ["drop", "a"], ["drop_mask", 0], "drop", "drop a", "undo", {"drop": "a"}, {}, {1: 2}, None, True, 0, NESTED,
            ("set_masks",), ("set_masks", (), ()), ("add_mask",), ("add_mask", 1, 1), ("drop_mask",),
            ("drop_mask", 0, 0), ("put",), ("put", "a"), ("put", "a", (0, 1), 1), ("drop",), ("drop", "a", "a"),
            ("conflicts",), ("__init__", 4), ("change", ()), ("_change", (), ()), ("is_free",), ("of_groups", 4, ()))
        for edit in strange:
            self.fails_with(InvalidLine, edit, tried, self.layout, (edit,))
            self.fails_with(InvalidLine, edit, tried, self.layout, (("add_mask", 1), edit, (1,), None))
            # Ahead of all edits, so ahead of what an earlier one raises.
            self.fails_with(InvalidLine, edit, tried, self.layout, (("drop", "x"), ("add_mask", 99), edit))

    def test_no_tuple_of_edits(self):
        for edits in NO_TUPLES + ([("drop", "a")], {("drop", "a"): 1}, "drop"):
            self.fails_with(InvalidLine, edits, tried, self.layout, edits)

    def test_one_edit_in_the_place_of_edits(self):
        edits = ("drop", "a")
        self.fails_with(InvalidLine, edits[0], tried, self.layout, edits)

    def test_no_layout(self):
        for value in NO_LAYOUTS:
            for edits in ((), (("drop", "a"),), [], None, ((),)):
                self.fails(NoLayout, tried, value, edits)
                self.fails(NoLayout, tried, edits=edits, layout=value)


if __name__ == "__main__":
    unittest.main()
