"""Trials: changes of a layout that are taken back at the end of a block."""

from xorbanks.errors import InvalidLine, NoLayout
from xorbanks.layout import Layout

# How many arguments each method that changes a layout takes.
EDITS = {"set_masks": 1, "add_mask": 1, "drop_mask": 1, "put": 2, "drop": 1}


class Beginning:
    """What a layout was when a block began, and the beginning of the block around it with the same trial."""

    def __init__(self, layout, around):
        self.now = layout.now
        # The layout goes on to modify its own list.
        self.past = list(layout.past)
        self.around = around


class Trial:
    """A context manager: at the end of the block the layout is as it was at the beginning."""

    def __init__(self, layout):
        if not isinstance(layout, Layout):
            raise NoLayout()
        self.layout = layout
        self.beginning = None

    def __enter__(self):
        self.beginning = Beginning(self.layout, self.beginning)
        return self.layout

    def __exit__(self, kind, value, trace):
        self.layout.now = self.beginning.now
        self.layout.past = self.beginning.past
        self.beginning = self.beginning.around


def is_edit(value):
    """Whether any value is a tuple of the name of a method that changes a layout, and as many arguments."""
    if not isinstance(value, tuple) or len(value) == 0 or not isinstance(value[0], str):
        return False
    return EDITS.get(value[0]) == len(value) - 1


def check_edits(edits):
    if not isinstance(edits, tuple):
        raise InvalidLine(edits)
    for edit in edits:
        if not is_edit(edit):
            raise InvalidLine(edit)


def make_edit(layout, edit):
    """Call the method that an edit names."""
    match edit:
        case ("set_masks", masks):
            layout.set_masks(masks)
        case ("add_mask", mask):
            layout.add_mask(mask)
        case ("drop_mask", index):
            layout.drop_mask(index)
        case ("put", name, group):
            layout.put(name, group)
        case ("drop", name):
            layout.drop(name)


def held_in(layout, look):
    """Return what a function of the layout returns; afterwards the layout is as before."""
    with Trial(layout) as held:
        return look(held)


def tried(layout, edits):
    """Return (masks, cycles, is free) as they are with these edits; afterwards the layout is as before."""
    with Trial(layout) as held:
        check_edits(edits)
        for edit in edits:
            make_edit(held, edit)
        return (held.masks, held.cycles(), held.is_free())
