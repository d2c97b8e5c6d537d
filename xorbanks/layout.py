"""A layout: named groups and a map, with undo."""

from xorbanks.checks import (
    LETTERS,
    MOST_GROUPS,
    MOST_MASKS,
    check_address,
    check_group,
    check_groups,
    check_map,
    check_width,
    is_int,
    is_name,
)
from xorbanks.conflicts import conflicts, cycles, is_free
from xorbanks.errors import InvalidIndex, InvalidName, NothingToUndo, TooMany, UnknownName
from xorbanks.extending import further_bits
from xorbanks.groups import differences


class Layout:
    """Groups under names, and a map.

    `now` is the state: the masks, and the pairs of a name and its group in the order of the names. A state is
    never modified, only replaced. `past` has the states ahead of the changes that can be taken back.
    """

    def __init__(self, width, *, masks=()):
        check_width(width)
        check_map(width, masks)
        self._width = width
        self.now = (masks, ())
        self.past = []

    def __eq__(self, other):
        return isinstance(other, Layout) and self._width == other._width and self.now == other.now

    @property
    def width(self):
        return self._width

    @property
    def masks(self):
        return self.now[0]

    @property
    def bits(self):
        return len(self.now[0])

    def _change(self, masks, pairs):
        self.past.append(self.now)
        self.now = (masks, tuple(sorted(pairs)))

    def _others(self, name):
        """Return the pairs with other names."""
        return [pair for pair in self.now[1] if pair[0] != name]

    def set_masks(self, masks):
        """Replace the map."""
        check_map(self._width, masks)
        self._change(masks, self.now[1])

    def add_mask(self, mask):
        """Add a mask behind the others."""
        check_address(self._width, mask)
        if self.bits == MOST_MASKS:
            raise TooMany(MOST_MASKS)
        self._change(self.masks + (mask,), self.now[1])

    def drop_mask(self, index):
        """Remove a mask and return it."""
        if not is_int(index) or not 0 <= index < self.bits:
            raise InvalidIndex(index)
        masks = self.masks
        self._change(masks[:index] + masks[index + 1:], self.now[1])
        return masks[index]

    def put(self, name, group):
        """Keep a group under a name, in the place of an earlier one."""
        if not is_name(name):
            raise InvalidName(name)
        check_group(self._width, group)
        pairs = self._others(name)
        if len(pairs) == MOST_GROUPS:
            raise TooMany(MOST_GROUPS)
        self._change(self.masks, pairs + [(name, group)])

    def drop(self, name):
        """Remove a group and return it."""
        group = self.group(name)
        self._change(self.masks, self._others(name))
        return group

    def names(self):
        """Return the names, ascending."""
        return tuple([name for name, _ in self.now[1]])

    def group(self, name):
        """Return the group of a name."""
        for known, group in self.now[1]:
            if known == name:
                return group
        raise UnknownName(name)

    def groups(self):
        """Return all groups in the order of their names."""
        return tuple([group for _, group in self.now[1]])

    def conflicts(self):
        """Yield (name, one, other) for all pairs with the same bank, in the order of the names, then ascending."""
        names = self.names()
        groups = self.groups()
        for index, one, other in conflicts(self._width, self.masks, groups):
            yield (names[index], one, other)

    def is_free(self):
        """Return whether no group has two addresses with the same bank."""
        return is_free(self._width, self.masks, self.groups())

    def cycles(self):
        """Return the sum of the degrees of the map in the groups."""
        return cycles(self._width, self.masks, self.groups())

    def missing_bits(self):
        """Return the least number of masks that must be added so that the map is free."""
        return further_bits(self._width, self.masks, differences(self._width, self.groups()))

    def undo(self):
        """Take back the last change that has not been taken back."""
        if len(self.past) == 0:
            raise NothingToUndo()
        self.now = self.past.pop()

    def changes(self):
        """Return how many changes can be taken back."""
        return len(self.past)

    def copy(self):
        """Return an independent layout in the same state, with the same changes to take back."""
        made = Layout(self._width)
        made.now = self.now
        made.past = list(self.past)
        return made

    @classmethod
    def of_groups(cls, width, groups):
        """Return a layout without masks, with these groups under the names a, b, c and so on."""
        made = cls(width)
        check_groups(width, groups)
        made.now = ((), tuple(zip(LETTERS, groups)))
        return made
