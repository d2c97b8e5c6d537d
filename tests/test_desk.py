import itertools
import random
import unittest

from tests.support import NO_INTS, NO_TUPLES, Case
from xorbanks.counting import count_maps, polynomial
from xorbanks.desk import Desk
from xorbanks.errors import (
    BankError, InvalidAddress, InvalidBits, InvalidGroup, InvalidIndex, InvalidLine, InvalidMap, InvalidName,
    InvalidWidth, NoLayout, NothingToUndo, TooMany, UnknownName)
from xorbanks.groups import differences
from xorbanks.layout import Layout
from xorbanks.lightest import lightest_map
from xorbanks.maps import bank
from xorbanks.texts import format_groups, format_layout, format_map, format_polynomial

TILE = ((0, 1, 2, 3), (0, 4, 8, 12))
FILLED = ("new 4", "put row 0 1 2 3", "put col 0 4 8 12", "masks 5 10")
# Every form of line with ordinary words, `undo` and what changes among them.
FORMS = (
    "masks 1 2", "masks -", "masks 0", "add 0", "add 15", "put a 0 1", "put row 3", "undo", "drop row", "remove 0",
    "remove 1", "show", "bank 0", "bank 15", "free", "cycles", "missing", "count 0", "count 2", "count 16",
    "polynomial",
    "lightest 0", "lightest 2")
NO_FORMS = (
    "", " ", "new", "new ", "new  4", " new 4", "new 4 ", "new 4 4", "new -", "new -4", "new +4", "new 04", "new a",
    "new 4.0", "new 12345678901", "New 4", "NEW 4", "new\t4", "new 4\n", "new4", "masks", "masks ", "masks  5",
    "masks 5  10", "masks 5 10 ", "masks - -", "masks - 5", "masks 5 -", "masks 05", "masks 5,10", "masks 5 a",
    "masks -5", "masks 00", "masks 5 10000000000 10000000000 01", "add", "add ", "add -", "add 1 2", "add 01", "add a",
    "put", "put ", "put row", "put row ", "put  0 1", "put  row 0 1", "put row  0 1", "put row 0  1", "put row 0 1 ",
    "put row 01", "put row - 1", "put row 1 -", "put row - -", "put row a", "put row 0,1", "undo ", " undo", "undo 1",
    "undo undo", "Undo", "drop", "drop ", "drop  row", "drop row col", "drop row ", "remove", "remove ", "remove -",
    "remove -1", "remove 01", "remove 0 0", "remove a", "show ", "show 1", "bank", "bank ", "bank -", "bank 01",
    "bank 1 2",
    "bank -1", "bank a", "free ", "free 1", "cycles ", "cycles 1", "missing ", "missing 1", "count", "count ",
    "count -",
    "count 01", "count 1 2", "count -1", "count a", "polynomial ", "polynomial 1", "polynomial q", "lightest",
    "lightest ", "lightest -", "lightest 01", "lightest 1 2", "lightest a", "help", "quit", "copy", "names", "groups",
    "weight", "done", "-", "0", "5 10", "redo", "set_masks 5", "drop_mask 0", "add_mask 1", "show\n", "free\n",
    "undo\nundo", "new 4\nshow", "masks 5\n", "put row 0\n1", "bank 0 ", "cycles  ", "  cycles", "none", "yes",
    "new 00000000004", "masks 00000000000", "bank 00000000001", "count 99999999999", "lightest 123456789012345678901")
NO_STRINGS = tuple(value for value in NO_TUPLES + NO_INTS if not isinstance(value, str)) + (
    b"show", ["show"], ("show",), ("new", 4), ["new", "4"], {"show": 1})


def desk_with(*lines):
    desk = Desk()
    for line in lines:
        desk.say(line)
    return desk


class Document(Case):
    def test_example(self):
        desk = Desk()
        self.same(
            [desk.say(line) for line in FILLED] + [desk.say("free"), desk.say("bank 12"), desk.say("count 2")],
            ["done", "done", "done", "done", "yes", "3", "36"])
        self.same(
            [desk.say("remove 1"), desk.say("free"), desk.say("missing"), desk.say("polynomial"), desk.say("show")],
            ["10", "no col 0 8", "1", "q^4 - 6*q^3 + 13*q^2 - 12*q + 4",
             "width 4 / masks 5 / col 0 4 8 12 / row 0 1 2 3"])


class Answers(Case):
    def test_each_form(self):
        desk = desk_with(*FILLED)
        for line, answer in (
                ("cycles", "2"), ("free", "yes"), ("missing", "0"), ("count 0", "0"), ("count 1", "0"),
                ("count 2", "36"),
                ("polynomial", "q^4 - 6*q^3 + 13*q^2 - 12*q + 4"), ("lightest 1", "none"), ("bank 15", "0"),
                ("bank 0", "0"), ("bank 1", "1"), ("bank 2", "2"), ("add 15", "done"), ("bank 1", "5"),
                ("remove 0", "5"), ("show", "width 4 / masks 10 15 / col 0 4 8 12 / row 0 1 2 3"), ("undo", "done"),
                ("undo", "done"), ("show", "width 4 / masks 5 10 / col 0 4 8 12 / row 0 1 2 3"),
                ("drop col", "0 4 8 12"), ("lightest 1", "none"), ("lightest 2", "1 2"), ("put z 7", "done"),
                ("drop z", "7"), ("masks -", "done"), ("show", "width 4 / masks - / row 0 1 2 3"), ("cycles", "4"),
                ("free", "no row 0 1"), ("missing", "2"), ("drop row", "0 1 2 3"), ("show", "width 4 / masks -"),
                ("polynomial", "q^4"), ("cycles", "0"), ("free", "yes"), ("count 16", str(2 ** 64)),
                ("lightest 0", "-"),
                ("lightest 3", "0 0 0"), ("masks 0", "done"), ("masks 15 0 15", "done"), ("remove 2", "15"),
                ("bank 7", "1"), ("new 1", "done"), ("show", "width 1 / masks -"), ("new 16", "done"),
                ("add 65535", "done"), ("bank 65535", "0"), ("bank 32768", "1"), ("show", "width 16 / masks 65535")):
            self.same(desk.say(line), answer)

    def test_lines_by_name(self):
        desk = Desk()
        self.same(desk.say(line="new 4"), "done")
        self.same(desk.say(line="show"), "width 4 / masks -")

    def test_long_lines(self):
        desk = desk_with("new 16")
        self.same(desk.say("masks" + " 65535" * 16), "done")
        self.same(desk.say("put abcdefgh " + " ".join(map(str, range(64)))), "done")
        self.same(desk.say("drop abcdefgh"), " ".join(map(str, range(64))))
        self.same(desk.say("show"), "width 16 / masks" + " 65535" * 16)

    def test_names_of_words(self):
        desk = desk_with("new 4")
        for name in ("new", "masks", "undo", "width", "show", "a", "zzzzzzzz"):
            self.same(desk.say(f"put {name} 0 1"), "done")
            self.same(desk.say(f"drop {name}"), "0 1")


class BesideALayout(Case):
    """Each answer beside the methods of a layout of the test's own."""

    def answer(self, layout, line):
        word, *rest = line.split(" ")
        numbers = tuple(int(part) for part in rest if part.isdigit())
        width, masks, groups = layout.width, layout.masks, layout.groups()
        hidden = differences(width, groups)
        if word == "masks":
            layout.set_masks(numbers)
        elif word == "add":
            layout.add_mask(*numbers)
        elif word == "put":
            layout.put(rest[0], numbers)
        elif word == "undo":
            layout.undo()
        elif word == "drop":
            return format_groups(width, (layout.drop(rest[0]),))
        elif word == "remove":
            return format_map(width, (layout.drop_mask(*numbers),))
        elif word == "show":
            return " / ".join(format_layout(layout).split("\n"))
        elif word == "bank":
            return str(bank(width, masks, *numbers))
        elif word == "free":
            found = list(layout.conflicts())
            return "no " + " ".join(map(str, found[0])) if found else "yes"
        elif word == "cycles":
            return str(layout.cycles())
        elif word == "missing":
            return str(layout.missing_bits())
        elif word == "count":
            return str(count_maps(width, hidden, *numbers))
        elif word == "polynomial":
            return format_polynomial(polynomial(width, hidden))
        else:
            made = lightest_map(width, hidden, *numbers)
            return "none" if made is None else format_map(width, made)
        return "done"

    def check(self, desk, layout, line):
        try:
            expected = self.answer(layout, line)
        except BankError as error:
            caught = self.fails(error.__class__, desk.say, line)
            self.same(caught.value, error.value)
            return False
        self.same(desk.say(line), expected)
        return True

    def test_long_ways(self):
        chance = random.Random(81)
        heads = (
            "masks", "add", "put", "undo", "drop", "remove", "show", "bank", "free", "cycles", "missing", "count",
            "polynomial", "lightest")
        for width in (1, 3, 4, 6, 7, 16):
            desk, layout = desk_with(f"new {width}"), Layout(width)
            made = []
            for _ in range(250):
                head = chance.choice(heads)
                numbers = sorted(chance.sample(range((1 << width) + 1), chance.randrange(1, 3)))
                if head == "masks":
                    head += "".join(f" {number}" for number in numbers) if chance.randrange(5) else " -"
                elif head in ("add", "bank"):
                    head += f" {numbers[0]}"
                elif head == "put":
                    head += " " + chance.choice(["a", "b", "row", "Row"])
                    head += "".join(f" {number}" for number in numbers) if chance.randrange(9) else " -"
                elif head == "drop":
                    head += " " + chance.choice(["a", "b", "row", "Row"])
                elif head == "remove":
                    head += f" {chance.randrange(4)}"
                elif head in ("count", "lightest"):
                    head += f" {chance.choice([0, 1, 2, 3, 16, 17])}"
                made.append(self.check(desk, layout, head))
                self.same(desk.say("show"), format_layout(layout).replace("\n", " / "))
            self.assertGreater(made.count(True), 100)
            self.assertGreater(made.count(False), 20)


class Lines(Case):
    def check(self, desk, line):
        self.fails_with(InvalidLine, line, desk.say, line)

    def test_no_forms(self):
        empty, filled = Desk(), desk_with(*FILLED)
        before = filled.say("show")
        for line in NO_FORMS + NO_STRINGS:
            self.check(empty, line)
            self.check(filled, line)
            self.same(filled.say("show"), before)
            self.fails(NoLayout, empty.say, "show")
        for line in NO_STRINGS:
            self.fails_with(InvalidLine, line, filled.say, line=line)

    def test_blanks(self):
        for line in FORMS + ("new 4",):
            for desk in (Desk(), desk_with(*FILLED)):
                self.check(desk, " " + line)
                self.check(desk, line + " ")
                for at in [at for at, letter in enumerate(line) if letter == " "]:
                    self.check(desk, line[:at] + " " + line[at:])
                if " " in line:
                    self.check(desk, line.replace(" ", "", 1))
                    self.check(desk, line.replace(" ", "\t", 1))
                    self.check(desk, line.replace(" ", "\n", 1))

    def test_numbers_of_10_and_11_digits(self):
        desk = desk_with(*FILLED)
        for number in (4294967296, 9999999999, 1000000000):
            self.same(self.fails(InvalidWidth, desk.say, f"new {number}").value, number)
            self.same(self.fails(InvalidMap, desk.say, f"masks 5 {number}").value, (5, number))
            self.same(self.fails(InvalidAddress, desk.say, f"add {number}").value, number)
            self.same(self.fails(InvalidGroup, desk.say, f"put a 0 {number}").value, (0, number))
            self.same(self.fails(InvalidIndex, desk.say, f"remove {number}").value, number)
            self.same(self.fails(InvalidAddress, desk.say, f"bank {number}").value, number)
            self.same(self.fails(InvalidBits, desk.say, f"count {number}").value, number)
            self.same(self.fails(InvalidBits, desk.say, f"lightest {number}").value, number)
        for number in ("10000000000", "99999999999", "9" * 5000):
            for word in ("new", "masks", "masks 5", "add", "put a", "put a 0", "remove", "bank", "count", "lightest"):
                self.check(desk, f"{word} {number}")
                self.check(Desk(), f"{word} {number}")

    def test_each_place_of_a_number(self):
        desk = desk_with(*FILLED)
        for bad in ("", "-", "01", "00", "-1", "+1", "a", "1a", "1.", "0x1", "1_0", "10000000000", "1\n", "\t1", "q"):
            for word in ("new", "add", "remove", "bank", "count", "lightest"):
                self.check(desk, f"{word} {bad}")
            for word in ("masks", "put row"):
                for numbers in itertools.permutations(["1", "2", bad]):
                    self.check(desk, f"{word} " + " ".join(numbers))
        self.same(desk.say("show"), "width 4 / masks 5 10 / col 0 4 8 12 / row 0 1 2 3")


class Errors(Case):
    def test_no_layout(self):
        for line in FORMS + (
                "masks 99999", "put Row 0", "put row -", "put row 1 0", "drop Row", "count 17", "bank 99999",
                "remove 99"):
            desk = Desk()
            self.fails(NoLayout, desk.say, line)
            self.fails(NoLayout, desk.say, line=line)

    def test_of_functions_and_methods(self):
        desk = desk_with(*FILLED)
        before = desk.say("show")
        for line, error, value in (
                ("new 0", InvalidWidth, 0), ("new 17", InvalidWidth, 17), ("masks 16", InvalidMap, (16,)),
                ("masks" + " 1" * 17, InvalidMap, (1,) * 17), ("add 16", InvalidAddress, 16),
                ("put Row 0", InvalidName, "Row"),
                ("put abcdefghi 0", InvalidName, "abcdefghi"), ("put - 0", InvalidName, "-"),
                ("put 1 1", InvalidName, "1"),
                ("put a\n 0", InvalidName, "a\n"), ("put a\tb 0", InvalidName, "a\tb"),
                ("put Row 1 0", InvalidName, "Row"),
                ("put Row -", InvalidName, "Row"), ("put a -", InvalidGroup, ()), ("put a 1 0", InvalidGroup, (1, 0)),
                ("put a 1 1", InvalidGroup, (1, 1)), ("put a 0 16", InvalidGroup, (0, 16)),
                ("drop a", UnknownName, "a"),
                ("drop Row", UnknownName, "Row"), ("drop -", UnknownName, "-"), ("drop 1", UnknownName, "1"),
                ("drop row\n", UnknownName, "row\n"), ("remove 2", InvalidIndex, 2), ("bank 16", InvalidAddress, 16),
                ("count 17", InvalidBits, 17), ("lightest 17", InvalidBits, 17)):
            self.same(self.fails(error, desk.say, line).value, value)
            self.same(desk.say("show"), before)
        for _ in range(3):
            desk.say("undo")
        self.same(desk.say("show"), "width 4 / masks -")
        self.fails(NothingToUndo, desk.say, "undo")

    def test_too_many(self):
        desk = desk_with("new 16", "masks" + " 1" * 16)
        self.same(self.fails(TooMany, desk.say, "add 1").value, 16)
        self.same(self.fails(InvalidAddress, desk.say, "add 65536").value, 65536)
        for letter in "abcdefghijklmnopqrst":
            desk.say(f"put {letter} 0")
        self.same(self.fails(TooMany, desk.say, "put u 0").value, 20)
        self.same(desk.say("put t 1"), "done")

    def test_great_widths(self):
        for width in (7, 16):
            desk = desk_with(f"new {width}")
            for line in ("missing", "count 1", "count 17", "polynomial", "lightest 1", "lightest 17"):
                self.same(self.fails(InvalidWidth, desk.say, line).value, width)
            self.same([desk.say("free"), desk.say("cycles"), desk.say("bank 100")], ["yes", "0", "0"])

    def test_what_was_refused_cannot_be_taken_back(self):
        desk = desk_with("new 4", "add 1")
        for line, error in (
                ("add 16", InvalidAddress), ("put A 0", InvalidName), ("drop a", UnknownName),
                ("remove 5", InvalidIndex),
                ("masks 99", InvalidMap), ("new 0", InvalidWidth), ("nothing", InvalidLine)):
            self.fails(error, desk.say, line)
        desk.say("undo")
        self.fails(NothingToUndo, desk.say, "undo")


class Desks(Case):
    def test_new_takes_the_place_of_the_layout(self):
        desk = desk_with(*FILLED)
        self.same(desk.say("new 2"), "done")
        self.same(desk.say("show"), "width 2 / masks -")
        self.fails(NothingToUndo, desk.say, "undo")

    def test_a_refused_new_keeps_the_layout(self):
        desk = desk_with(*FILLED)
        self.fails(InvalidWidth, desk.say, "new 17")
        self.same(desk.say("show"), "width 4 / masks 5 10 / col 0 4 8 12 / row 0 1 2 3")
        desk.say("undo")
        self.same(desk.say("show"), "width 4 / masks - / col 0 4 8 12 / row 0 1 2 3")
        empty = Desk()
        self.fails(InvalidWidth, empty.say, "new 0")
        self.fails(NoLayout, empty.say, "show")

    def test_two_desks_and_a_layout(self):
        one, other, layout = desk_with(*FILLED), desk_with(*FILLED), Layout.of_groups(4, TILE)
        one.say("drop row")
        one.say("masks 1")
        layout.add_mask(7)
        self.same(other.say("show"), "width 4 / masks 5 10 / col 0 4 8 12 / row 0 1 2 3")
        other.say("new 1")
        self.same(one.say("show"), "width 4 / masks 1 / col 0 4 8 12")
        self.same((layout.masks, layout.names()), ((7,), ("a", "b")))
        one.say("undo")
        self.same(one.say("show"), "width 4 / masks 5 10 / col 0 4 8 12")
        self.fails(NoLayout, Desk().say, "show")


if __name__ == "__main__":
    unittest.main()
