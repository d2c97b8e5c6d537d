import itertools
import random
import re
import unittest

from tests.support import (
    NO_INTS, NO_TUPLES, NO_WIDTHS, Case, no_groups, no_vectors, state_of)
from xorbanks.errors import InvalidGroups, InvalidMap, InvalidNumber, InvalidText, InvalidWidth, NoLayout
from xorbanks.layout import Layout
from xorbanks.texts import (
    format_groups, format_layout, format_map, format_polynomial, parse_groups, parse_layout, parse_map)

TILE = ((0, 1, 2, 3), (0, 4, 8, 12))
TILE_TEXT = "0 1 2 3\n0 4 8 12"
LAYOUT_TEXT = "width 4\nmasks 5 10\ncol 0 4 8 12\nrow 0 1 2 3"
LETTERS = "abcdefghijklmnopqrstuvwxyz"
NO_STRINGS = (True, False, None, 0, 5, -1, (), ("5",), ["5"], [], {}, {"5": 5}, (5, 10), b"5", ((),))
NUMBER = re.compile(r"0|[1-9][0-9]*")


def numbers_by_hand(text):
    """The numbers of a text, straight from the document; None for a text that is none."""
    words = text.split(" ")
    if not all(NUMBER.fullmatch(word) for word in words):
        return None
    return tuple(int(word) for word in words)


def map_by_hand(width, text):
    masks = () if text == "-" else numbers_by_hand(text)
    if masks is None or len(masks) > 16 or any(mask >= 2 ** width for mask in masks):
        return None
    return masks


def is_group_by_hand(width, group):
    return group is not None and list(group) == sorted(set(group)) and len(group) <= 64 and group[-1] < 2 ** width


def groups_by_hand(width, text):
    groups = () if text == "" else tuple(numbers_by_hand(line) for line in text.split("\n"))
    if len(groups) > 20 or not all(is_group_by_hand(width, group) for group in groups):
        return None
    return groups


def layout_by_hand(text):
    """(width, masks, names, groups) of the text of a layout, None for another text."""
    found = re.fullmatch(r"width ([1-9]|1[0-6])\nmasks ([^\n]*)((?:\n[a-z]{1,8} [^\n]*)*)", text)
    if found is None:
        return None
    width, masks = int(found[1]), map_by_hand(int(found[1]), found[2])
    lines = [line.split(" ", 1) for line in found[3].split("\n")[1:]]
    names = tuple(line[0] for line in lines)
    groups = groups_by_hand(width, "\n".join(line[1] for line in lines))
    if masks is None or groups is None or list(names) != sorted(set(names)) or len(groups) != len(names):
        return None
    return (width, masks, names, groups)


def changed(text, letters):
    """Texts that differ in one place: a letter left out, put in, replaced; two letters or lines exchanged."""
    for at in range(len(text) + 1):
        yield text[:at] + text[at + 1:]
        for letter in letters:
            yield text[:at] + letter + text[at:]
            yield text[:at] + letter + text[at + 1:]
    for at in range(len(text) - 1):
        yield text[:at] + text[at + 1] + text[at] + text[at + 2:]
    lines = text.split("\n")
    for one, other in itertools.product(range(len(lines)), repeat=2):
        moved = lines[:one] + lines[one + 1:]
        yield "\n".join(moved[:other] + [lines[one]] + moved[other:])
        yield "\n".join(lines[:other] + [lines[one]] + lines[other:])
    for at in range(len(lines)):
        yield "\n".join(lines[:at] + lines[at + 1:])


class Document(Case):
    def test_first_example(self):
        self.same(
            [format_map(4, (5, 10)), format_polynomial((4, -12, 13, -6, 1)), format_polynomial((0, -1, 0)),
             parse_groups(4, TILE_TEXT) == TILE],
            ["5 10", "q^4 - 6*q^3 + 13*q^2 - 12*q + 4", "-q", True])

    def test_second_example(self):
        self.same(parse_layout("width 4\nmasks 5 10\na 0 1").masks, (5, 10))


class Maps(Case):
    def check(self, width, masks, text):
        self.same(format_map(width, masks), text)
        self.same(parse_map(width, text), masks)

    def test_by_hand(self):
        for width in (4, 16):
            self.check(width, (), "-")
            self.check(width, (0,), "0")
            self.check(width, (5, 10), "5 10")
            self.check(width, (15, 0, 15), "15 0 15")
            self.check(width, (9,) * 16, "9" + " 9" * 15)
        self.check(16, (65535, 1, 10000), "65535 1 10000")
        self.check(1, (1, 0, 1), "1 0 1")

    def test_there_and_back(self):
        chance = random.Random(71)
        for width in range(1, 17):
            for size in range(17):
                masks = tuple(chance.randrange(1 << width) for _ in range(size))
                self.check(width, masks, " ".join(str(mask) for mask in masks) or "-")

    def test_changed_texts(self):
        for width, text in ((4, "5 10"), (3, "0 7 7"), (1, "1"), (16, "65535 10"), (6, "-"), (4, ("9 " * 16)[:-1])):
            for other in changed(text, " 0159-+\n\ta\r_.,"):
                expected = map_by_hand(width, other)
                if expected is None:
                    self.fails_with(InvalidText, other, parse_map, width, other)
                else:
                    self.same(parse_map(width, other), expected)

    def test_refused_texts(self):
        for text in (
                "", " ", "- ", " -", "--", "-\n", "- -", "-1", "+1", "01", "00", "1 ", " 1", "1  2", "1\n", "\n1",
                "1\n2",
                "1,2", "1, 2", "(1, 2)", "1\t2", "1_0", "0x1", "1.0", "1e1", "a", "None", "16", "15 16", "99999999999",
                "1 -", "- 1", "9" * 5000, "1 " * 16 + "1", "0" * 5000, "1\r", "1\r\n2"):
            self.fails_with(InvalidText, text, parse_map, 4, text)
            self.fails_with(InvalidText, text, parse_map, text=text, width=4)

    def test_numbers_too_great(self):
        for width in range(1, 17):
            for number in (1 << width, (1 << width) + 1, 10 ** 9, 10 ** 10, 10 ** 40):
                for text in (f"{number}", f"0 {number}", f"{number} 0"):
                    self.fails_with(InvalidText, text, parse_map, width, text)


class Groups(Case):
    def check(self, width, groups, text):
        self.same(format_groups(width, groups), text)
        self.same(parse_groups(width, text), groups)

    def test_by_hand(self):
        self.check(4, (), "")
        self.check(4, TILE, TILE_TEXT)
        self.check(4, ((0,),), "0")
        self.check(1, ((0, 1), (1,), (0, 1)), "0 1\n1\n0 1")
        self.check(16, ((65535,),) * 20, "65535\n" * 19 + "65535")
        self.check(6, (tuple(range(64)),), " ".join(str(address) for address in range(64)))

    def test_there_and_back(self):
        chance = random.Random(72)
        for width in (1, 2, 6, 16):
            for many in range(21):
                groups = tuple(
                    tuple(sorted(chance.sample(range(1 << width), chance.randrange(1, min(64, 1 << width) + 1))))
                    for _ in range(many))
                text = "\n".join(" ".join(str(address) for address in group) for group in groups)
                self.check(width, groups, text)

    def test_changed_texts(self):
        for width, text in ((4, TILE_TEXT), (1, "0 1\n1\n0"), (16, "7 65535\n9"), (4, "1\n" * 19 + "1"), (2, "")):
            for other in changed(text, " 0129-\na\r"):
                expected = groups_by_hand(width, other)
                if expected is None:
                    self.fails_with(InvalidText, other, parse_groups, width, other)
                else:
                    self.same(parse_groups(width, other), expected)

    def test_refused_texts(self):
        for text in (
                " ", "\n", "-", "0 1\n", "\n0 1", "0 1\n\n0", "0 1\n-", "1 0", "0 0", "0 1 1", "0 16", "0\r\n1", "0;1",
                "0 1 / 0 2", "00 1", "0 01", "0  1", "0 1 ", " 0 1", "0 +1", "0 -1", "a 0 1", "0\n" * 20 + "0",
                "0 " + "9" * 5000):
            self.fails_with(InvalidText, text, parse_groups, 4, text)
        text = " ".join(str(address) for address in range(65))
        self.fails_with(InvalidText, text, parse_groups, 16, text)
        self.same(len(parse_groups(16, text[:-3])[0]), 64)


class Polynomials(Case):
    def test_by_hand(self):
        for coefficients, text in (
                ((0,), "0"), ((0, 0, 0), "0"), ((1,), "1"), ((-1,), "-1"), ((7,), "7"), ((-12,), "-12"),
                ((0, 1), "q"), ((0, -1), "-q"), ((0, 2), "2*q"), ((0, -2), "-2*q"), ((1, 1), "q + 1"),
                ((-1, 1), "q - 1"), ((1, -1), "-q + 1"), ((-1, -1), "-q - 1"), ((0, 0, 1), "q^2"),
                ((0, 0, -1), "-q^2"), ((0, 0, -3), "-3*q^2"), ((0, 0, 3), "3*q^2"), ((5, 0, 1), "q^2 + 5"),
                ((-5, 0, -1), "-q^2 - 5"), ((0, 1, 1), "q^2 + q"), ((0, -1, 1), "q^2 - q"), ((1, 0), "1"),
                ((2, -3, 1), "q^2 - 3*q + 2"), ((0, -1, 0), "-q"), ((3, 0, 0), "3"),
                ((0, 10, 0, -10), "-10*q^3 + 10*q"),
                ((1, 1, 1, 1), "q^3 + q^2 + q + 1"), ((-1, -1, -1, -1), "-q^3 - q^2 - q - 1"),
                ((4, -12, 13, -6, 1), "q^4 - 6*q^3 + 13*q^2 - 12*q + 4"), ((0,) * 12 + (1,), "q^12"),
                ((11, -11, 21), "21*q^2 - 11*q + 11"), ((0,) * 100 + (-2,), "-2*q^100")):
            self.same(format_polynomial(coefficients), text)
            self.same(format_polynomial(coefficients=coefficients), text)

    def test_great_coefficients(self):
        for power in (17, 18, 19, 36, 37, 100):
            for added in (-1, 0, 1, 7):
                number = 10 ** power + added
                self.same(format_polynomial((number, -number, number)), f"{number}*q^2 - {number}*q + {number}")
        self.same(format_polynomial((0, -10 ** 5000)), "-1" + "0" * 5000 + "*q")
        self.same(format_polynomial((1 + 10 ** 6000,)), "1" + "0" * 5999 + "1")

    def test_terms_by_hand(self):
        for coefficients in itertools.product((-2, -1, 0, 1, 2), repeat=4):
            terms = []
            for power in (3, 2, 1, 0):
                number = coefficients[power]
                if number:
                    factor = {0: "", 1: "q"}.get(power, f"q^{power}")
                    if abs(number) > 1 or power == 0:
                        factor = str(abs(number)) + ("*" + factor if factor else "")
                    terms.append(("- " if number < 0 else "+ ") + factor)
            text = " ".join(terms) or "0"
            text = {"+ ": text[2:], "- ": "-" + text[2:]}.get(text[:2], text)
            self.same(format_polynomial(coefficients), text)

    def test_wrong_inputs(self):
        wrong = list(NO_TUPLES) + [(), [1], ((1,),), ([1],)]
        for item in NO_INTS:
            wrong += [(item,), (1, item), (item, 1)]
        self.refuses(format_polynomial, ("coefficients", (1, 2), InvalidNumber, wrong))


class Layouts(Case):
    def made(self, width, masks, named):
        layout = Layout(width, masks=masks)
        for name, group in named:
            layout.put(name, group)
        return layout

    def check(self, layout, text):
        self.same(format_layout(layout), text)
        self.same(format_layout(layout=layout), text)
        parsed = parse_layout(text)
        self.assertIs(parsed.__class__, Layout)
        self.assertTrue(parsed == layout)
        self.same(state_of(parsed), state_of(layout)[:-1] + (0,))
        self.same(state_of(parse_layout(text=text)), state_of(parsed))

    def test_by_hand(self):
        self.check(Layout(1), "width 1\nmasks -")
        self.check(Layout(16, masks=(65535,) * 16), "width 16\nmasks 65535" + " 65535" * 15)
        self.check(self.made(4, (5, 10), (("row", TILE[0]), ("col", TILE[1]))), LAYOUT_TEXT)
        self.check(
            self.made(6, (), (("width", (0,)), ("masks", (1,)), ("z", (0, 63)), ("a", (2,)))),
            "width 6\nmasks -\na 2\nmasks 1\nwidth 0\nz 0 63")
        self.check(
            Layout.of_groups(1, ((0, 1),) * 20), "width 1\nmasks -\n" + "\n".join(f"{a} 0 1" for a in LETTERS[:20]))

    def test_there_and_back(self):
        chance = random.Random(73)
        for width in range(1, 17):
            for many in (0, 1, 2, 19, 20):
                named = [
                    ("".join(chance.choice(LETTERS) for _ in range(chance.randrange(1, 9))),
                     tuple(sorted(chance.sample(range(1 << width), chance.randrange(1, 3))))) for _ in range(many)]
                masks = tuple(chance.randrange(1 << width) for _ in range(chance.randrange(17)))
                layout = self.made(width, masks, named)
                lines = [f"width {width}", "masks " + (" ".join(map(str, masks)) or "-")]
                lines += [f"{name} " + " ".join(map(str, layout.group(name))) for name in sorted(dict(named))]
                self.check(layout, "\n".join(lines))

    def test_changed_texts(self):
        accepted = 0
        for text in (
                LAYOUT_TEXT, "width 1\nmasks -", "width 16\nmasks 0\nabcdefgh 65535",
                "width 2\nmasks 3 3\na 0 1\nb 0 1",
                "width 6\nmasks -\nmasks 1\nwidth 0"):
            for other in changed(text, " 0169-\nabzA\r"):
                expected = layout_by_hand(other)
                if expected is None:
                    self.fails_with(InvalidText, other, parse_layout, other)
                else:
                    width, masks, names, groups = expected
                    accepted += 1
                    self.same(
                        state_of(parse_layout(other)),
                        (width, masks, len(masks), names, groups, tuple(zip(names, groups)), 0))
        self.assertGreater(accepted, 100)

    def test_refused_texts(self):
        for text in (
                "", "\n", LAYOUT_TEXT + "\n", "width 4", "width 4\n", "masks 5", "width 4\nmasks", "width 4\nmasks ",
                "masks 5\nwidth 4",
                "width 4\nmasks 5\n", "\nwidth 4\nmasks 5", "width 0\nmasks -", "width 17\nmasks -", "width -\nmasks -",
                "width 04\nmasks -", "width 4 4\nmasks -", "width  4\nmasks -", "width\nmasks -", "Width 4\nmasks -",
                "width 4\nmasks 16", "width 4\nmasks 05", "width 4\nmasks 5  10", "width 4\nmasks 5 ",
                "width 4\nmasks -5",
                "width 4\nwidth 4\nmasks 5", "width 4\nmasks 5\nmasks 5\nmasks 5", "width 4\nmasks 5\na",
                "width 4\nmasks 5\na ",
                "width 4\nmasks 5\na -", "width 4\nmasks 5\na 1 0", "width 4\nmasks 5\na 0 16", "width 4\nmasks 5\nA 0",
                "width 4\nmasks 5\n 0", "width 4\nmasks 5\nabcdefghi 0", "width 4\nmasks 5\nb 0\na 0",
                "width 4\nmasks 5\na 0\na 0", "width 4\nmasks 5\na 0\na 1", "width 4\nmasks 5\na 0\n\nb 0",
                "width 4 / masks 5", "width 4\r\nmasks 5", "width 4\nmasks 5\na  0", "width 4\nmasks 5\na\t0",
                "width " + "9" * 5000 + "\nmasks -", "width 4\nmasks -\n" + "\n".join(f"{a} 0" for a in LETTERS[:21])):
            self.fails_with(InvalidText, text, parse_layout, text)


class WrongInputs(Case):
    def test_format(self):
        for width in (1, 6, 16):
            self.refuses(
                format_map, ("width", width, InvalidWidth, NO_WIDTHS),
                ("masks", (1, 0), InvalidMap, no_vectors(width, 16)))
            self.refuses(
                format_groups, ("width", width, InvalidWidth, NO_WIDTHS),
                ("groups", ((0, 1),), InvalidGroups, no_groups(width)))
        for value in NO_TUPLES + NO_INTS + (Layout, LAYOUT_TEXT):
            self.fails(NoLayout, format_layout, value)
            self.fails(NoLayout, format_layout, layout=value)

    def test_parse(self):
        for function in (parse_map, parse_groups):
            self.refuses(
                function, ("width", 4, InvalidWidth, NO_WIDTHS),
                ("text", "5", InvalidText, NO_STRINGS + tuple(value for value in NO_INTS if value not in ("4", ""))))
        self.refuses(parse_layout, ("text", LAYOUT_TEXT, InvalidText, NO_STRINGS + NO_INTS))
        self.fails_with(InvalidText, "", parse_map, 4, "")

    def test_a_layout_is_no_text(self):
        layout = Layout(4)
        self.fails_with(InvalidText, layout, parse_layout, layout)


if __name__ == "__main__":
    unittest.main()
