"""Texts of maps, groups, polynomials and layouts, and what exactly these texts mean."""

from xorbanks.checks import (
    are_groups_of,
    are_masks,
    check_coefficients,
    check_groups,
    check_map,
    check_width,
    is_name,
    is_width,
)
from xorbanks.errors import InvalidText, NoLayout
from xorbanks.layout import Layout

DIGITS = "0123456789"
MOST_DIGITS = 10
PART = 1000000000000000000


def decimal(number):
    """Return the digits of an int from 0."""
    # Python itself refuses to write ints of more than some thousand digits at once.
    parts = []
    while number >= PART:
        number, part = divmod(number, PART)
        parts.append(f"{part:018d}")
    parts.append(f"{number}")
    return "".join(parts[::-1])


def text_of_numbers(numbers):
    return " ".join([f"{number}" for number in numbers])


def text_of_map(masks):
    if len(masks) == 0:
        return "-"
    return text_of_numbers(masks)


def text_of_term(coefficient, power):
    """Return the text of a term without its sign."""
    size = decimal(abs(coefficient))
    if power == 0:
        return size
    factor = "q" if power == 1 else f"q^{power}"
    return factor if size == "1" else f"{size}*{factor}"


def text_of_sign(coefficient, is_first):
    if is_first:
        return "-" if coefficient < 0 else ""
    return " - " if coefficient < 0 else " + "


def number_of(word):
    """Return the int that at most 10 digits without leading zeros mean, None for another string."""
    if not 1 <= len(word) <= MOST_DIGITS or not all([letter in DIGITS for letter in word]):
        return None
    number = int(word)
    return number if f"{number}" == word else None


def numbers_of(text):
    """Return the tuple of the numbers that a string lists, None if it is not one or more numbers."""
    numbers = [number_of(word) for word in text.split(" ")]
    return None if None in numbers else tuple(numbers)


def list_of(text):
    """Return the tuple of the numbers that a string lists, which may be `-` for none; None for another one."""
    return () if text == "-" else numbers_of(text)


def check_text(text):
    if not isinstance(text, str):
        raise InvalidText(text)


def format_map(width, masks):
    """Return the masks in decimal, separated by one space, or `-` for the empty map."""
    check_width(width)
    check_map(width, masks)
    return text_of_map(masks)


def format_groups(width, groups):
    """Return one line for each group: the addresses in decimal, separated by one space."""
    check_width(width)
    check_groups(width, groups)
    return "\n".join([text_of_numbers(group) for group in groups])


def format_polynomial(coefficients):
    """Return the terms from the highest power of q down, without those whose coefficient is 0."""
    check_coefficients(coefficients)
    text = ""
    for power in reversed(range(len(coefficients))):
        coefficient = coefficients[power]
        if coefficient != 0:
            text = text + text_of_sign(coefficient, text == "") + text_of_term(coefficient, power)
    return "0" if text == "" else text


def format_layout(layout):
    """Return the lines of the width, of the masks, and of each group in the order of the names."""
    if not isinstance(layout, Layout):
        raise NoLayout()
    lines = [f"width {layout.width}", f"masks {text_of_map(layout.masks)}"]
    for name in layout.names():
        lines.append(f"{name} {text_of_numbers(layout.group(name))}")
    return "\n".join(lines)


def parse_map(width, text):
    """Return the map that a text means."""
    check_width(width)
    check_text(text)
    masks = list_of(text)
    if not are_masks(width, masks):
        raise InvalidText(text)
    return masks


def parse_groups(width, text):
    """Return the groups that a text means."""
    check_width(width)
    check_text(text)
    lines = [] if text == "" else text.split("\n")
    groups = tuple([numbers_of(line) for line in lines])
    if not are_groups_of(width, groups):
        raise InvalidText(text)
    return groups


def are_names(names):
    """Whether strings are different names in ascending order."""
    return all([is_name(name) for name in names]) and all([one < other for one, other in zip(names, names[1:])])


def parse_layout(text):
    """Return the layout that a text means, with nothing to take back."""
    check_text(text)
    lines = [line.partition(" ") for line in text.split("\n")]
    names = [first for first, _, _ in lines]
    rests = [rest for _, _, rest in lines]
    if names[:2] != ["width", "masks"] or not are_names(names[2:]):
        raise InvalidText(text)
    width = number_of(rests[0])
    masks = list_of(rests[1])
    groups = tuple([numbers_of(rest) for rest in rests[2:]])
    if not is_width(width) or not are_masks(width, masks) or not are_groups_of(width, groups):
        raise InvalidText(text)
    layout = Layout(width, masks=masks)
    layout.now = (masks, tuple(zip(names[2:], groups)))
    return layout
