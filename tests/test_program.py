"""The guarantees of the document over the whole program, for small widths beside all maps."""

import itertools
import random
import unittest

from tests.support import Case, all_maps, history_of, odd, state_of
from xorbanks.cases import division, free_map, shows_division
from xorbanks.conflicts import cycles, is_free
from xorbanks.counting import least_bits, polynomial, value_at
from xorbanks.desk import Desk
from xorbanks.extending import extended
from xorbanks.groups import differences
from xorbanks.layout import Layout
from xorbanks.sharing import shared_map
from xorbanks.texts import format_groups, format_layout, format_map, parse_groups, parse_layout, parse_map
from xorbanks.trials import tried
from xorbanks.vectors import rank

# The most masks for which all maps of a width are gone through.
MOST = {1: 4, 2: 4, 3: 3}


def sampled(width):
    """Groups under names, and masks, the same in each run."""
    chance = random.Random(90 + width)
    size = 1 << width
    for many in (0, 1, 1, 2, 2, 3, 3, 3):
        groups = tuple(
            tuple(sorted(chance.sample(range(size), chance.randrange(1, min(size, 6) + 1)))) for _ in range(many))
        yield groups, tuple(chance.randrange(size) for _ in range(chance.randrange(4)))


def words(numbers):
    return " ".join(str(number) for number in numbers) or "-"


def ones(masks):
    return sum(bin(mask).count("1") for mask in masks)


def value_of_text(text, q):
    """The value of a polynomial that is written as text."""
    total, sign = 0, 1
    for word in text.replace("-q", "-1*q").split(" "):
        if word in "+-":
            sign = 1 if word == "+" else -1
        else:
            factor, _, power = word.partition("q")
            number = int(factor.rstrip("*")) if factor else 1
            total += sign * number * (q ** int(power.lstrip("^") or 1) if "q" in word else 1)
            sign = 1
    return total


class Told(Case):
    """What the desk tells, beside all maps."""

    def desk_of(self, width, groups, masks):
        desk = Desk()
        desk.say(f"new {width}")
        for name, group in zip("zma", groups):
            desk.say(f"put {name} {words(group)}")
        desk.say(f"masks {words(masks)}")
        return desk

    def banks(self, masks, address):
        return tuple(odd(address & mask) for mask in masks)

    def cycles(self, masks, groups):
        total = 0
        for group in groups:
            banks = [self.banks(masks, address) for address in group]
            total += max(banks.count(bank) for bank in banks)
        return total

    def is_free(self, masks, groups):
        return all(len({self.banks(masks, address) for address in group}) == len(group) for group in groups)

    def check_map(self, desk, masks, groups):
        """The desk holds these masks."""
        self.same(desk.say("cycles"), str(self.cycles(masks, groups)))
        answer = desk.say("free")
        self.same(answer == "yes", self.is_free(masks, groups))
        if answer != "yes":
            _, name, one, other = answer.split(" ")
            group = groups["zma".index(name)]
            self.assertTrue(int(one) in group and int(other) in group and int(one) < int(other))
            self.same(self.banks(masks, int(one)), self.banks(masks, int(other)))

    def check_counts(self, desk, width, groups, masks):
        written = desk.say("polynomial")
        missing = None
        for bits in range(MOST[width] + 1):
            free = [more for more in all_maps(width, bits) if self.is_free(more, groups)]
            self.same(desk.say(f"count {bits}"), str(len(free)))
            self.same(value_of_text(written, 2 ** bits), len(free))
            lightest = desk.say(f"lightest {bits}")
            if free:
                made = parse_map(width, lightest)
                self.assertIn(made, free)
                self.same(ones(made), min(ones(more) for more in free))
            else:
                self.same(lightest, "none")
            if missing is None and any(self.is_free(masks + more, groups) for more in all_maps(width, bits)):
                missing = bits
        self.same(desk.say("missing"), str(missing))

    def test_all_maps(self):
        for width in MOST:
            for groups, masks in sampled(width):
                desk = self.desk_of(width, groups, masks)
                self.check_counts(desk, width, groups, masks)
                for bits in range(3):
                    for chosen in all_maps(width, bits):
                        desk.say(f"masks {words(chosen)}")
                        self.check_map(desk, chosen, groups)


class Guarantees(Case):
    def test_either_or_and_the_counts(self):
        for width in (2, 3, 5, 6):
            for groups, masks in sampled(width):
                hidden = differences(width, groups)
                needed = least_bits(width, hidden)
                for bits in range(width + 1):
                    made, value = free_map(width, hidden, bits), division(width, hidden, bits)
                    self.same((made is None, value is None), (bits < needed, bits >= needed))
                    self.same(value_at(polynomial(width, hidden), 1 << bits) > 0, bits >= needed)
                    if made is None:
                        self.same(shows_division(width, hidden, bits, value), True)
                    else:
                        self.same(is_free(width, made, groups), True)
                self.same(is_free(width, extended(width, masks, hidden), groups), True)

    def test_sharing(self):
        vectors = [chosen for size in range(3) for chosen in itertools.product(range(8), repeat=size)]
        for one, other in itertools.product(vectors, vectors):
            masks = shared_map(3, one, other)
            self.same(len(masks), max(rank(3, one), rank(3, other)))

    def test_a_layout_tells_what_a_new_one_tells(self):
        for width in (1, 3, 6, 16):
            for groups, masks in sampled(width):
                layout = Layout(width)
                for name, group in zip("zma", groups):
                    layout.put(name, (0,))
                    layout.put(name, group)
                    layout.put("q", group)
                    layout.drop("q")
                layout.set_masks(masks + (0,))
                layout.drop_mask(len(masks))
                before = history_of(layout)
                tried(layout, (("add_mask", 1), ("put", "q", (0, 1))))
                self.same(history_of(layout), before)
                new = Layout(width, masks=masks)
                for name, group in zip("zma", groups):
                    new.put(name, group)
                self.assertTrue(layout == new)
                self.same(state_of(layout)[:-1], state_of(new)[:-1])
                self.same(list(layout.conflicts()), list(new.conflicts()))
                self.same(layout.cycles(), cycles(width, masks, groups))
                self.same(layout.is_free(), is_free(width, masks, groups))

    def test_texts_are_parsed_back(self):
        for width in range(1, 17):
            for groups, masks in sampled(width):
                self.same(parse_map(width, format_map(width, masks)), masks)
                self.same(parse_groups(width, format_groups(width, groups)), groups)
                layout = Layout.of_groups(width, groups)
                layout.set_masks(masks)
                parsed = parse_layout(format_layout(layout))
                self.assertTrue(parsed == layout)
                self.same(parsed.changes(), 0)


if __name__ == "__main__":
    unittest.main()
