"""What the tests share: exact comparison, exact errors, and wrong values of every kind."""

import copy
import itertools
import random
import unittest

NESTED = ()
for _ in range(29):
    NESTED = (NESTED,)

NO_INTS = (
    True, False, None, "", "4", "a", (), (4,), (4, 5), [], [4], {}, {4: 4}, {"width": 4},
    ((4,),), [[4]], ({}, [None, "x"]), NESTED,
)
NO_TUPLES = (
    True, False, None, 0, 1, 5, -1, "", "12", [], [1], [1, 2], [(1, 2)], {}, {1: 2}, {"a": (1,)}, [[]],
)
NO_WIDTHS = (0, 17, 18, -1, -16, 10 ** 30, -10 ** 30) + NO_INTS
NO_SMALL_WIDTHS = (7, 8, 16) + NO_WIDTHS
NO_NAMES = (
    "abcdefghi", "aaaaaaaaaaaaaaaa", "A", "aB", "Zz", "a1", "1", "a b", " a", "a ", "a\n", "\n", "-", "a-b", "_", "a_",
    "`", "{", "a.b", 0, 1, -1, 97, 10 ** 30,
) + tuple(value for value in NO_INTS if value != "a")
NO_BITS = (-1, 17, 18, -16, 10 ** 30, -10 ** 30) + NO_INTS


def no_addresses(width):
    """Values that are not addresses of the width."""
    return (1 << width, (1 << width) + 1, -1, -2, 10 ** 40, -10 ** 40) + NO_INTS


def no_vectors(width, most):
    """Values that are not tuples of at most so many addresses of the width."""
    wrong = list(NO_TUPLES)
    wrong.append((0,) * (most + 1))
    wrong.append((1,) * (most + 2))
    for item in no_addresses(width):
        wrong += [(item,), (1, item), (item, 1), (0, 1, item, 1)]
    return tuple(wrong)


def no_group(width):
    """Values that are not groups of the width."""
    top = (1 << width) - 1
    wrong = list(NO_TUPLES) + [(), (1, 0), (0, 0), (1, 1), (0, 1, 1), (top, 0), (0, top, top), [0, 1], [0]]
    for item in no_addresses(width):
        wrong += [(item,), (0, item), (item, 1), (0, 1, item)]
    if width > 6:
        wrong += [tuple(range(65)), tuple(range(top - 65, top))]
    return tuple(wrong)


def no_groups(width):
    """Values that are not groups, in the plural, of the width."""
    wrong = list(NO_TUPLES) + [(0, 1), [(0, 1)], ([0, 1],), (((0, 1),),), ((0,),) * 21, ((0, 1),) * 22]
    for group in no_group(width):
        wrong += [(group,), ((0, 1), group), (group, (0,)), ((0,),) * 19 + (group,)]
    return tuple(wrong)


def no_differences(width):
    """Values that are not differences of the width."""
    top = (1 << width) - 1
    wrong = list(NO_TUPLES) + [(0,), (0, 1), (1, 0), (1, 1), (top, top), tuple(range(top + 1)), (top, 0), [top]]
    if width > 1:
        wrong += [(2, 1), (1, 2, 2), (1, 3, 2), tuple(range(top, 0, -1))]
    for item in no_addresses(width):
        wrong += [(item,), (1, item), (item, 1), (1, item, top)]
    return tuple(wrong)


def spanned(vectors):
    """The span, straight from its definition."""
    found = {0}
    for vector in vectors:
        found |= {one ^ vector for one in found}
    return found


def least_basis(space):
    """The basis of a space, straight from its definition."""
    tops = sorted({one.bit_length() for one in space if one})
    return tuple(min(one for one in space if one.bit_length() == top) for top in tops)


def odd(number):
    return bin(number).count("1") % 2


def all_differences(width):
    every = range(1, 1 << width)
    return [chosen for size in range(1 << width) for chosen in itertools.combinations(every, size)]


def sampled_differences(width, most):
    """Differences of a greater width, the same in each run."""
    chance = random.Random(15 + width)
    for size in range(most + 1):
        yield tuple(sorted(chance.sample(range(1, 1 << width), size)))


def differences_for(width):
    """All differences of a width below 4, some of a greater one."""
    if width < 4:
        return all_differences(width)
    return list(sampled_differences(width, (1 << width) - 1))


def all_maps(width, bits):
    return itertools.product(range(1 << width), repeat=bits)


def kernel_set(width, masks):
    """The addresses with bank 0, straight from the definition."""
    return frozenset(address for address in range(1 << width) if not any(odd(address & mask) for mask in masks))


def by_kernel(width, bits):
    """The number of maps with so many masks for each kernel, counted one by one."""
    zeros = [kernel_set(width, (mask,)) for mask in range(1 << width)]
    counts = {}
    for masks in all_maps(width, bits):
        kernel = frozenset(range(1 << width)).intersection(*(zeros[mask] for mask in masks))
        counts[kernel] = counts.get(kernel, 0) + 1
    return counts


def state_of(layout):
    """All that a layout tells of itself."""
    groups = tuple((name, layout.group(name)) for name in layout.names())
    return (layout.width, layout.masks, layout.bits, layout.names(), layout.groups(), groups, layout.changes())


def history_of(layout):
    """The states of a layout, back to the beginning, from a copy."""
    other = layout.copy()
    states = [state_of(other)]
    for _ in range(layout.changes()):
        other.undo()
        states.append(state_of(other))
    return states


def kinds(value):
    """The classes of a value and of all that it holds (repr would not do: it refuses very great ints)."""
    if isinstance(value, dict):
        return [dict, [(kinds(key), kinds(held)) for key, held in value.items()]]
    if isinstance(value, (tuple, list)):
        return [value.__class__, [kinds(item) for item in value]]
    return value.__class__


class Case(unittest.TestCase):
    def same(self, result, expected):
        """Equal, and of the same kinds throughout: True is not 1, and a list is not a tuple."""
        self.assertEqual(result, expected)
        self.assertEqual(kinds(result), kinds(expected))

    def fails(self, error, function, /, *args, **named):
        """The call raises exactly this class, and leaves its arguments as they were."""
        before = copy.deepcopy((args, named))
        with self.assertRaises(error) as caught:
            function(*args, **named)
        self.assertIs(caught.exception.__class__, error)
        self.same((args, named), before)
        return caught.exception

    def fails_with(self, error, value, function, /, *args, **named):
        """The call raises exactly this class with the very value."""
        self.assertIs(self.fails(error, function, *args, **named).value, value)

    def refuses(self, function, *parameters):
        """Each parameter, a tuple (name, good value, error, wrong values), is refused, the first one first."""
        names = [name for name, _, _, _ in parameters]
        good = [value for _, value, _, _ in parameters]
        for at, (_, _, error, values) in enumerate(parameters):
            for index, value in enumerate(values):
                later = [wrong[index % len(wrong)] for _, _, _, wrong in parameters[at + 1:]]
                for arguments in (good[:at] + [value] + good[at + 1:], good[:at] + [value] + later):
                    self.fails_with(error, value, function, *arguments)
                    self.fails_with(error, value, function, **dict(zip(names, arguments)))
