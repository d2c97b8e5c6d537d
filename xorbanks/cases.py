"""Free maps, or divisions into cases that show that there is none.

A choice is kept as the list of the banks that it decides, address by address: the bank of each address
below a power of two. The number of its new banks stands beside it.
"""

from xorbanks.checks import check_bits, check_differences, check_small_width, is_int
from xorbanks.errors import InvalidNumber
from xorbanks.vectors import powers

NOTHING_CHOSEN = (0,)


def check_question(width, differences, bits):
    check_small_width(width)
    check_differences(width, differences)
    check_bits(bits)


def next_banks(new, bits):
    """Return the banks that may come next after so many new ones, ascending."""
    many = 1 << new
    if new < bits:
        return list(range(many + 1))
    return list(range(many))


def with_bank(decided, bank):
    """Return what is decided with one bank more."""
    return decided + tuple([bank ^ other for other in decided])


def new_with_bank(new, bank):
    """Return the number of new banks with one bank more."""
    if bank == 1 << new:
        return new + 1
    return new


def decided_zero(differences, decided):
    """Return a difference that is decided and has bank 0, None if there is none."""
    for difference in differences:
        if difference < len(decided) and decided[difference] == 0:
            return difference
    return None


def free_choice(width, differences, bits, decided, new):
    """Return what a choice of all banks decides that continues this one and is free, None without one."""
    if decided_zero(differences, decided) is not None:
        return None
    if len(decided) == 1 << width:
        return decided
    for bank in next_banks(new, bits):
        found = free_choice(width, differences, bits, with_bank(decided, bank), new_with_bank(new, bank))
        if found is not None:
            return found
    return None


def free_map_of(width, differences, bits):
    """Return a free map with so many masks, None if there is none, for a width from 0."""
    decided = free_choice(width, differences, bits, NOTHING_CHOSEN, 0)
    if decided is None:
        return None
    units = powers(width)
    return tuple([sum([unit for unit in units if (decided[unit] >> index) & 1]) for index in range(bits)])


def division_of(width, differences, bits, decided, new):
    """Return a division for this choice, None if there is none."""
    zero = decided_zero(differences, decided)
    if zero is not None:
        return zero
    if len(decided) == 1 << width:
        return None
    parts = []
    for bank in next_banks(new, bits):
        part = division_of(width, differences, bits, with_bank(decided, bank), new_with_bank(new, bank))
        if part is None:
            return None
        parts.append(part)
    return tuple(parts)


def is_division(width, differences, bits, value, decided, new):
    """Return whether any value is a division for this choice."""
    if is_int(value):
        return value in differences and value < len(decided) and decided[value] == 0
    if not isinstance(value, tuple) or len(decided) == 1 << width:
        return False
    banks = next_banks(new, bits)
    if len(value) != len(banks):
        return False
    for bank, part in zip(banks, value):
        if not is_division(width, differences, bits, part, with_bank(decided, bank), new_with_bank(new, bank)):
            return False
    return True


def is_made_of_ints(value):
    """Return whether any value is an int or a tuple of such values."""
    if isinstance(value, tuple):
        return all([is_made_of_ints(item) for item in value])
    return is_int(value)


def count_ints(value):
    """Return the number of ints in a value that is made of them."""
    if isinstance(value, tuple):
        return sum([count_ints(item) for item in value])
    return 1


def free_map(width, differences, bits):
    """Return a free map with so many masks, None if there is none."""
    check_question(width, differences, bits)
    return free_map_of(width, differences, bits)


def division(width, differences, bits):
    """Return None if there is a free map, otherwise a division into cases."""
    check_question(width, differences, bits)
    return division_of(width, differences, bits, NOTHING_CHOSEN, 0)


def shows_division(width, differences, bits, value):
    """Return whether any value is a division, which shows that there is no free map."""
    check_question(width, differences, bits)
    return is_division(width, differences, bits, value, NOTHING_CHOSEN, 0)


def ends(value):
    """Return the number of ints in a division."""
    if not is_made_of_ints(value):
        raise InvalidNumber(value)
    return count_ints(value)
