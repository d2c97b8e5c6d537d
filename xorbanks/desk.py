"""A desk: a layout that is led by lines of text."""

from xorbanks.counting import count_maps, polynomial
from xorbanks.errors import InvalidLine, NoLayout
from xorbanks.groups import differences
from xorbanks.layout import Layout
from xorbanks.lightest import lightest_map
from xorbanks.maps import bank
from xorbanks.texts import (
    format_layout,
    format_polynomial,
    list_of,
    number_of,
    text_of_map,
    text_of_numbers,
)

DONE = "done"
LINES_ALONE = ("undo", "show", "free", "cycles", "missing", "polynomial")
WORDS_WITH_NUMBER = ("new", "add", "remove", "bank", "count", "lightest")


def name_of(word):
    """Return a word that may stand for a name, None for another string."""
    return None if word == "" or " " in word else word


def arguments_of(word, rest):
    """Return the arguments that the rest of a line means behind its first word, None in the place of a wrong one."""
    if word in WORDS_WITH_NUMBER:
        return (number_of(rest),)
    if word == "masks":
        return (list_of(rest),)
    if word == "drop":
        return (name_of(rest),)
    if word == "put":
        name, _, numbers = rest.partition(" ")
        return (name_of(name), list_of(numbers))
    return (None,)


def words_of(line):
    """Return the first word of a line and what the others mean; raise InvalidLine if it has none of the forms."""
    if not isinstance(line, str):
        raise InvalidLine(line)
    if line in LINES_ALONE:
        return (line,)
    word, _, rest = line.partition(" ")
    arguments = arguments_of(word, rest)
    if None in arguments:
        raise InvalidLine(line)
    return (word,) + arguments


def differences_in(layout):
    return differences(layout.width, layout.groups())


def set_map(layout, masks):
    layout.set_masks(masks)
    return DONE


def add_mask(layout, mask):
    layout.add_mask(mask)
    return DONE


def put_group(layout, name, group):
    layout.put(name, group)
    return DONE


def undo_change(layout):
    layout.undo()
    return DONE


def drop_group(layout, name):
    return text_of_numbers(layout.drop(name))


def remove_mask(layout, index):
    return f"{layout.drop_mask(index)}"


def tell_layout(layout):
    return format_layout(layout).replace("\n", " / ")


def tell_bank(layout, address):
    return f"{bank(layout.width, layout.masks, address)}"


def tell_free(layout):
    for name, one, other in layout.conflicts():
        return f"no {name} {one} {other}"
    return "yes"


def tell_cycles(layout):
    return f"{layout.cycles()}"


def tell_missing(layout):
    return f"{layout.missing_bits()}"


def tell_count(layout, bits):
    return f"{count_maps(layout.width, differences_in(layout), bits)}"


def tell_polynomial(layout):
    return format_polynomial(polynomial(layout.width, differences_in(layout)))


def tell_lightest(layout, bits):
    masks = lightest_map(layout.width, differences_in(layout), bits)
    return "none" if masks is None else text_of_map(masks)


ACTIONS = {
    "masks": set_map,
    "add": add_mask,
    "put": put_group,
    "undo": undo_change,
    "drop": drop_group,
    "remove": remove_mask,
    "show": tell_layout,
    "bank": tell_bank,
    "free": tell_free,
    "cycles": tell_cycles,
    "missing": tell_missing,
    "count": tell_count,
    "polynomial": tell_polynomial,
    "lightest": tell_lightest,
}


class Desk:
    """Holds at most one layout."""

    def __init__(self):
        self.layout = None

    def say(self, line):
        """Execute a line and return the answer."""
        word, *arguments = words_of(line)
        if word == "new":
            self.layout = Layout(arguments[0])
            return DONE
        if self.layout is None:
            raise NoLayout()
        action = ACTIONS[word]
        return action(self.layout, *arguments)
