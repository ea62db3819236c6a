import functools
import random
import unittest

from doorslips.errors import ParseError
from doorslips.houses import require_house
from doorslips.texts import format_house, format_use, parse_house, parse_use
from tests.helper import (
    ALL_SIZES, COUNTS, EIGHT, FOUR, GATE, GREATEST, HOUSES, ORDERS, TURN, WINDOW, Case, all_steps, all_uses,
    house_of_kinds, some_houses,
)

TEXT = "cells 2 3\nbegin 0 0\nkind\nwhen 0 0 0 add 1 1\nwhen 0 1 1 add 1 2\nkind\nadd 0 1\n"
# A text with each word, and with kinds without steps.
FULL = (
    (2, 2, 2),
    (0, 1, 0),
    (
        (("set", 0, 1), ("add", 1, 1), ("up", 2, 1), ("raise", 0, 1), ("lower", 1, 0), ("copy", 2, 0)),
        (),
        (("swap", 0, 2), ("when", 1, 0, 1, ("swap", 1, 0)), ("when", 2, 1, 1, ("copy", 0, 1))),
        (),
    ),
)


def line_told(text):
    """Return the line of the error of a text of a house, or None, by how the lines up to each one could go on."""
    *lines, rest = text.split("\n")
    for index in range(len(lines)):
        if not can_go_on(lines[:index + 1]):
            return index
    return len(lines) if rest or len(lines) < 3 else None


def can_go_on(lines):
    """Tell whether lines are the first ones of a text of a house."""
    if len(lines) == 1:
        return any(lines == [cells(sizes)] for sizes in ALL_SIZES)
    sizes = [sizes for sizes in ALL_SIZES if lines[0] == cells(sizes)][0]
    begins = [()]
    for size in sizes:
        begins = [row + (value,) for row in begins for value in range(size)]
    if lines[1] not in ["begin " + " ".join(str(value) for value in begin) for begin in begins]:
        return False
    steps = lines_of_steps(sizes)
    if lines[2:].count("kind") > 4 or lines[2:3] not in ([], ["kind"]):
        return False
    runs = 0
    for line in lines[2:]:
        runs = 0 if line == "kind" else runs + 1
        if runs > 6 or line != "kind" and line not in steps:
            return False
    return True


@functools.lru_cache(maxsize=None)
def lines_of_steps(sizes):
    """Return the lines of all steps for cells of these sizes."""
    return {" ".join(words(step)) for step in all_steps(sizes)}


def cells(sizes):
    return "cells " + " ".join(str(size) for size in sizes)


def words(step):
    """Return the words of a step, one by one."""
    found = []
    for part in step:
        found += words(part) if isinstance(part, tuple) else [str(part)]
    return found


class TextCase(Case):
    def wrong(self, text, line):
        with self.subTest(text=text[:200]):
            self.same(vars(self.error(ParseError, parse_house, text)), {"line": line})

    def wrong_use(self, text, line, house=TURN):
        with self.subTest(text=text[:200]):
            self.same(vars(self.error(ParseError, parse_use, text, house)), {"line": line})


class TestFormat(TextCase):
    def test_the_example(self):
        self.same(self.answer(format_house, TURN), TEXT)
        self.same(self.answer(format_use, ("oldest", (0, 1))), "oldest 0 1\n")

    def test_each_word(self):
        self.same(self.answer(format_house, FULL), (
            "cells 2 2 2\nbegin 0 1 0\nkind\nset 0 1\nadd 1 1\nup 2 1\nraise 0 1\nlower 1 0\ncopy 2 0\nkind\nkind\n"
            "swap 0 2\nwhen 1 0 1 swap 1 0\nwhen 2 1 1 copy 0 1\nkind\n"
        ))
        for step in all_steps((2, 2)):
            house = ((2, 2), (0, 1), ((step,),))
            self.same(self.answer(format_house, house), "cells 2 2\nbegin 0 1\nkind\n" + " ".join(words(step)) + "\n")

    def test_uses(self):
        for order in ORDERS:
            for goers, text in (((0,), "0"), ((3,), "3"), ((1, 2), "1 2"), ((0, 1, 2, 3), "0 1 2 3")):
                self.same(self.answer(format_use, (order, goers)), f"{order} {text}\n")

    def test_by_name(self):
        self.same(self.answer(format_house, house=TURN), TEXT)
        self.same(self.answer(format_use, use=("any", (1,))), "any 1\n")
        self.same(self.answer(parse_house, text=TEXT), TURN)
        self.same(self.answer(parse_use, house=TURN, text="any 1\n"), ("any", (1,)))


class TestBack(TextCase):
    def test_houses(self):
        for house in HOUSES + (FULL, COUNTS) + tuple(some_houses(200, "texts")):
            text = self.answer(format_house, house)
            self.assertTrue(text.endswith("\n"))
            self.same(self.answer(parse_house, text), house)

    def test_houses_at_their_bounds(self):
        for sizes in ALL_SIZES:
            steps = all_steps(sizes)
            for at in range(0, len(steps), 6):
                house = (sizes, tuple(size - 1 for size in sizes), (tuple(steps[at:at + 6]),) + ((),) * (at % 4))
                self.same(self.answer(parse_house, format_house(require_house(house))), house)

    def test_uses(self):
        for house in (TURN, GREATEST, FOUR, EIGHT, house_of_kinds(1)):
            for use in all_uses(house):
                self.same(self.answer(parse_use, format_use(use), house), use)


class TestWrongHouses(TextCase):
    def told(self, text):
        """Check the error of a text, or that there is none, as it is told beside."""
        line = line_told(text)
        if line is None:
            self.same(format_house(self.answer(parse_house, text)), text)
        else:
            self.wrong(text, line)
        return line

    def test_lines(self):
        for text, line in (
            ("", 0), ("\n", 0), ("\n\n\n", 0), ("cells", 0), ("cells\n", 0), ("cells 2", 0), ("cells 2\n", 1),
            ("cells 9\n", 0), ("cells 1\n", 0), ("cells 0\n", 0), ("cells 2 2 2 2\n", 0), ("cells 3 3\n", 0),
            ("cells 2 5\n", 0), ("cells 8 1\n", 0), ("cells  2\n", 0), ("cells 2 \n", 0), (" cells 2\n", 0),
            ("cells 02\n", 0), ("cells +2\n", 0), ("cells 2.0\n", 0), ("Cells 2\n", 0), ("cells 2,2\n", 0),
            ("cells\t2\n", 0), ("cells 2\r\n", 0), ("cells 2\n\n", 1), ("cells 2\nbegin 0", 1),
            ("cells 2\nbegin 0\n", 2),
            ("cells 2\nbegin\n", 1), ("cells 2\nbegin 2\n", 1), ("cells 2\nbegin 0 0\n", 1),
            ("cells 2 2\nbegin 0\n", 1),
            ("cells 2\nbegin -1\n", 1), ("cells 2\nbegin 00\n", 1), ("cells 2\nkind\n", 1), ("cells 2\ncells 2\n", 1),
            ("cells 2\nbegin 0\nkind", 2), ("cells 2\nbegin 0\nadd 0 1\n", 2), ("cells 2\nbegin 0\nbegin 0\n", 2),
            ("cells 2\nbegin 0\nkind \n", 2), ("cells 2\nbegin 0\n kind\n", 2), ("cells 2\nbegin 0\nkinds\n", 2),
            ("cells 2\nbegin 0\nkind 0\n", 2), ("cells 2\nbegin 0\nKind\n", 2), ("cells 2\nbegin 0\n\n", 2),
            ("cells 2\nbegin 0\nkind\n\n", 3), ("cells 2\nbegin 0\nkind\n ", 3), ("cells 2\nbegin 0\nkind\nkin", 3),
            ("cells 2\nbegin 0\nkind\nkind", 3), ("cells 2\nbegin 0\nkind\nadd 0 1", 3),
            ("begin 0\ncells 2\nkind\n", 0),
            ("cells 2\nbegin 0\nkind\ncells 2\n", 3), ("cells 2\nbegin 0\nkind\nbegin 0\n", 3),
        ):
            self.wrong(text, line)
            self.assertEqual(line_told(text), line)
        self.same(self.answer(parse_house, "cells 2\nbegin 0\nkind\n"), ((2,), (0,), ((),)))

    def test_steps(self):
        head = "cells 2 4\nbegin 1 3\nkind\nset 0 1\n"
        for line in (
            "set", "set 0", "set 0 2", "set 2 0", "set 0 0 0", "set 0 -1", "set 0 01", "set 0 x", "set 0 1 ",
            "set 0  1",
            " set 0 1", "set\t0 1", "set 0 1\r", "set 0 +1", "set 0 1.", "set,0,1", "set 1 4", "set 1 10", "set 1 9",
            "add 0 0", "add 0 2", "add 1 4", "up 0 0", "up 1 4", "raise 0 2", "lower 1 4", "copy 0 0", "copy 0 2",
            "copy 2 0",
            "swap 0 1", "swap 0 0", "sets 0 1", "Set 0 1", "0 0 1", "when", "when 0 0 0", "when 0 0 0 ",
            "when 0 1 0 set 0 1",
            "when 0 0 2 set 0 1", "when 2 0 0 set 0 1", "when 0 0 0 set", "when 0 0 0 set 0", "when 0 0 0 set 0 2",
            "when 0 0 0 kind", "when 0 0 0 when 0 0 0 set 0 1", "when 0 0 set 0 1", "when 0 0 0 0 set 0 1",
            "when 0 0 0  set 0 1", "when 00 0 0 set 0 1", "when 0 0 0 set 0 1 1", "when -0 0 0 set 0 1",
            "When 0 0 0 set 0 1",
            "when 0 0 0 (set 0 1)", "", " ", "kind kind", "kind 1", "set 0 \u0661", "set 0 \u00b9", "set \uff10 1",
            "set 0 " + "9" * 5000, "set 0 " + "0" * 5000, "set " * 3000,
        ):
            self.wrong(head + line + "\n", 4)
            self.wrong(head + line + "\nkind\n", 4)
            if line:
                self.wrong(head + line, 4)
        for line in ("set 1 3", "add 1 3", "copy 0 1", "when 1 0 3 set 0 1", "when 0 1 1 copy 1 0", "kind"):
            self.assertIsNone(self.told(head + line + "\n"))

    def test_too_many_kinds_and_steps(self):
        head = "cells 2\nbegin 0\n"
        self.same(self.answer(parse_house, head + "kind\n" * 4), ((2,), (0,), ((),) * 4))
        self.wrong(head + "kind\n" * 5, 6)
        self.wrong(head + "kind\n" * 5 + "x\n", 6)
        self.wrong(head + "kind\nadd 0 1\n" * 4 + "kind\n", 10)
        six = "kind\n" + "add 0 1\n" * 6
        self.same(self.answer(parse_house, head + six * 4), ((2,), (0,), ((("add", 0, 1),) * 6,) * 4))
        self.wrong(head + "kind\n" + "add 0 1\n" * 7, 9)
        self.wrong(head + six + six + "add 0 1\n", 16)
        self.wrong(head + six * 3 + "kind\n" + "add 0 1\n" * 2000, 30)

    def test_the_end(self):
        for house in (TURN, FULL, WINDOW):
            text = format_house(house)
            ends = text.count("\n")
            self.wrong(text[:-1], ends - 1)
            for behind in (" ", "x", "kind", "add 0 1", "\r", "\t", "0"):
                self.wrong(text + behind, ends)
            for behind in ("\n", " \n", "\n\n", "\r\n"):
                self.wrong(text + behind, ends)

    def test_each_line_left_out_put_twice_exchanged_and_cut_short(self):
        for house in (TURN, FULL, GATE) + tuple(some_houses(10, "lines")):
            lines = format_house(house).split("\n")[:-1]
            for at, line in enumerate(lines):
                for changed in (
                    lines[:at] + lines[at + 1:], lines[:at] + [line] + lines[at:],
                    lines[:at] + lines[at + 1:at + 2] + [line] + lines[at + 2:],
                    lines[:at] + [line[:-1]] + lines[at + 1:], lines[:at] + [line[1:]] + lines[at + 1:],
                    lines[:at] + [line.rpartition(" ")[0]] + lines[at + 1:], lines[:at], lines[:at] + [""] + lines[at:],
                    lines[:at] + [line + " "] + lines[at + 1:], lines[:at] + [" " + line] + lines[at + 1:],
                    lines[:at] + [line.replace(" ", "  ", 1)] + lines[at + 1:],
                    lines[:at] + [line + "\r"] + lines[at + 1:],
                    lines[:at] + [line.replace(" ", "\t", 1)] + lines[at + 1:],
                ):
                    self.told("".join(row + "\n" for row in changed))
                    self.told("\n".join(changed))

    def test_each_word_replaced(self):
        met = set()
        others = (
            "0", "1", "2", "7", "8", "9", "10", "00", "01", "-1", "+1", "1_0", "\u0663", "\u00b2", "x", "", "set",
            "add", "up",
            "raise", "lower", "copy", "swap", "when", "kind", "cells", "begin", "any", "SET",
        )
        for house in (TURN, FULL, GATE, COUNTS):
            lines = [line.split(" ") for line in format_house(house).split("\n")[:-1]]
            for at, line in enumerate(lines):
                for place in range(len(line)):
                    for other in others:
                        changed = lines[:at] + [line[:place] + [other] + line[place + 1:]] + lines[at + 1:]
                        met.add(self.told("".join(" ".join(row) + "\n" for row in changed)))
        # Some of them make another house, and the others are wrong at each of their lines, or behind it.
        self.assertGreater(len(met), 15)
        self.assertIn(None, met)

    def test_drawn_changes(self):
        draw = random.Random("texts")
        for house in some_houses(30, "changes"):
            text = format_house(house)
            for _ in range(20):
                at = draw.randrange(len(text))
                sign = draw.choice("0123456789 \nkinadetr\t\r")
                ahead, behind = text[:at], text[at + 1:]
                self.told(draw.choice((ahead + sign + text[at:], ahead + sign + behind, ahead + behind)))

    def test_texts_of_20000_characters(self):
        self.wrong("x" * 20000, 0)
        self.wrong("\n" * 20000, 0)
        self.wrong(" " * 20000, 0)
        self.wrong("cells " + "2" * 19994, 0)
        self.wrong("cells " + "2" * 19993 + "\n", 0)
        self.wrong("cells 2\nbegin 0\n" + "kind\n" * 3900, 6)


class TestWrongUses(TextCase):
    def test_lines(self):
        for text in (
            "", "any", "any 0", "any 0 1", "x", "0",
        ):
            self.wrong_use(text, 0)
        for line in (
            "", " ", "any", "any ", "any  0", " any 0", "any 0 ", "any 2", "any 0 2", "any 1 0", "any 0 0", "any 00",
            "any -1",
            "any +1", "any 0,1", "Any 0", "old 0", "oldest0", "oldest 0 1 1", "newest\t0", "newest 0\r", "any x",
            "0 any",
            "any 10", "any \u0661", "any any", "kind", "any 0 1 2 3 4 5 6 7 8 9", "any " + "1" * 5000, "any (0)",
            "('any', (0,))",
        ):
            self.wrong_use(line + "\n", 0)
            self.wrong_use(line + "\nany 0\n", 0)
            if "\n" not in line:
                self.wrong_use(line, 0)

    def test_lines_behind_the_first_one(self):
        for behind in ("\n", "any 0\n", " \n", "x\n", "x\ny", "\n\n", "any 0\nany 0\n"):
            self.wrong_use("any 0\n" + behind, 1)
        for behind in (" ", "x", "any 0", "\r", "\t"):
            self.wrong_use("any 0\n" + behind, 1)
            self.wrong_use("oldest 0 1\n" + behind, 1)

    def test_kinds_of_the_house(self):
        for house in (TURN, GREATEST, FOUR, house_of_kinds(1)):
            many = len(house[2])
            self.same(self.answer(parse_use, f"newest {many - 1}\n", house), ("newest", (many - 1,)))
            self.wrong_use(f"newest {many}\n", 0, house)
            self.wrong_use(f"newest {many - 1} {many}\n", 0, house)
            self.wrong_use(" ".join(["any"] + [str(kind) for kind in range(5)]) + "\n", 0, house)


if __name__ == "__main__":
    unittest.main()
