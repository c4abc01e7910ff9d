"""write, and that what is written is read to the same program."""

import random
import unittest

from dimhouse.texts import read, write
from dimhouse.words import WIDE

SIGNS = ("+", "-", "*", "<", "=", "&", "|", "^")
NAMES = ("a", "b", "zzzzzz", "if", "at", "go", "end", "load", "cell", "twins", "copy", "op", "r", "say")
VALUES = (0, 1, 9, 10, 60, 999999999999, WIDE - 1)


def same(one, other):
    """Whether both are equal and of the same kinds throughout."""
    if type(one) is not type(other):
        return False
    if isinstance(one, tuple):
        return len(one) == len(other) and all(same(x, y) for x, y in zip(one, other))
    return one == other


def any_row(chance, rows):
    """Any row of a program of so many rows."""
    name = lambda: chance.choice(NAMES)
    atom = lambda: chance.choice(NAMES + VALUES)
    number = lambda: chance.randint(0, rows)
    return chance.choice((
        lambda: ("copy", name(), atom()),
        lambda: ("op", name(), chance.choice(SIGNS), atom(), atom()),
        lambda: ("load", name(), name()),
        lambda: ("store", name(), atom()),
        lambda: ("take", name(), name(), atom()),
        lambda: ("lay", name(), atom(), atom()),
        lambda: ("hear", name()),
        lambda: ("say", atom()),
        lambda: ("if", atom(), number()),
        lambda: ("go", number()),
        lambda: ("end", atom()),
    ))()


def any_program(chance):
    """Any program that has a row, in order or not."""
    names = chance.sample(NAMES, 12)
    cells = [(name, chance.choice(VALUES), chance.random() < 0.5) for name in names[:chance.randint(0, 8)]]
    shelves = [(name, chance.randint(1, 8), chance.random() < 0.5) for name in names[8:8 + chance.randint(0, 4)]]
    rows = chance.randint(1, 60)
    return (tuple(cells), tuple(shelves), tuple(any_row(chance, rows) for row in range(rows)))


class Written(unittest.TestCase):
    def check(self, program, text):
        self.assertEqual(write(program), text)
        self.assertTrue(same(read(text), program), read(text))

    def check_row(self, row, text):
        self.check(((), (), (row,)), text)

    def test_copy(self):
        self.check_row(("copy", "x", 0), "x = 0")
        self.check_row(("copy", "x", WIDE - 1), "x = 1099511627775")
        self.check_row(("copy", "abcdef", "ghijkl"), "abcdef = ghijkl")

    def test_op_with_each_sign(self):
        for sign in SIGNS:
            self.check_row(("op", "x", sign, "y", "z"), "x = y " + sign + " z")
            self.check_row(("op", "x", sign, 1, 2), "x = 1 " + sign + " 2")
            self.check_row(("op", "x", sign, "x", 0), "x = x " + sign + " 0")

    def test_cells_and_shelves_rows(self):
        self.check_row(("load", "x", "c"), "load x c")
        self.check_row(("store", "c", "x"), "store c x")
        self.check_row(("store", "c", 12), "store c 12")
        self.check_row(("take", "x", "f", "i"), "take x f i")
        self.check_row(("take", "x", "f", 3), "take x f 3")
        self.check_row(("lay", "f", "i", "v"), "lay f i v")
        self.check_row(("lay", "f", 1, 2), "lay f 1 2")

    def test_letters_rows(self):
        self.check_row(("hear", "x"), "hear x")
        self.check_row(("say", "x"), "say x")
        self.check_row(("say", 5), "say 5")

    def test_end(self):
        self.check_row(("end", "x"), "end x")
        self.check_row(("end", 0), "end 0")

    def test_if_and_go_to_themselves(self):
        self.check_row(("go", 0), "at r0\ngo r0")
        self.check_row(("if", "x", 0), "at r0\nif x r0")
        self.check_row(("if", 7, 0), "at r0\nif 7 r0")

    def test_label_at_the_end(self):
        self.check_row(("go", 1), "go r1\nat r1")
        self.check_row(("if", "x", 1), "if x r1\nat r1")

    def test_labels_ahead_in_the_middle_and_at_the_end(self):
        rows = (("if", "x", 3), ("go", 0), ("if", 1, 4), ("go", 2), ("end", "x"), ("go", 6))
        text = "at r0\nif x r3\ngo r0\nat r2\nif 1 r4\nat r3\ngo r2\nat r4\nend x\ngo r6\nat r6"
        self.check(((), (), rows), text)

    def test_a_label_led_to_often_stands_once(self):
        rows = (("if", "x", 2), ("go", 2), ("end", 0))
        self.check(((), (), rows), "if x r2\ngo r2\nat r2\nend 0")

    def test_cells_and_shelves(self):
        cells = (("b", 5, False), ("a", 0, True), ("c", WIDE - 1, False))
        shelves = (("g", 8, True), ("f", 1, False))
        text = "cell b 5\ntwin a 0\ncell c 1099511627775\ntwins g 8\nshelf f 1\nend 0"
        self.check((cells, shelves, (("end", 0),)), text)

    def test_only_cells_only_shelves(self):
        self.check(((("a", 1, True),), (), (("end", 0),)), "twin a 1\nend 0")
        self.check(((), (("a", 1, True),), (("end", 0),)), "twins a 1\nend 0")

    def test_twin_and_plain_of_every_size(self):
        for size in range(1, 9):
            self.check(((), (("f", size, False),), (("end", 0),)), f"shelf f {size}\nend 0")
            self.check(((), (("f", size, True),), (("end", 0),)), f"twins f {size}\nend 0")

    def test_names_like_words(self):
        self.check_row(("copy", "load", "at"), "load = at")
        self.check_row(("copy", "if", "if"), "if = if")
        self.check_row(("op", "cell", "=", "twin", "go"), "cell = twin = go")
        self.check_row(("copy", "at", 1), "at = 1")
        self.check_row(("if", "if", 0), "at r0\nif if r0")
        self.check_row(("load", "load", "load"), "load load load")
        self.check_row(("say", "say"), "say say")
        self.check((((("cell"), 0, False),), (("shelf", 1, False),), (("end", "end"),)), "cell cell 0\nshelf shelf 1\nend end")

    def test_not_in_order(self):
        rows = (("load", "x", "c"), ("store", "f", 0), ("take", "x", "c", 0), ("lay", "none", 0, 0))
        text = "cell c 0\nshelf f 2\nload x c\nstore f 0\ntake x c 0\nlay none 0 0"
        self.check(((("c", 0, False),), (("f", 2, False),), rows), text)

    def test_greatest_program(self):
        names = ["n" + letter for letter in "abcdefghijkl"]
        cells = tuple((name, WIDE - 1, False) for name in names[:8])
        shelves = tuple((name, 8, True) for name in names[8:])
        rows = tuple(("if", "x", number + 1) for number in range(60))
        text = write((cells, shelves, rows))
        self.assertEqual(len(text.split("\n")), 12 + 60 + 60)
        self.assertTrue(text.endswith("\nif x r60\nat r60"))
        self.check((cells, shelves, rows), text)

    def test_somewhat_beyond_the_bounds(self):
        rows = tuple(("go", number) for number in range(130))
        self.assertEqual(read(write(((), (), rows))), ((), (), rows))

    def test_any_program_is_read_again(self):
        chance = random.Random(20)
        for turn in range(400):
            program = any_program(chance)
            text = write(program)
            self.assertTrue(same(read(text), program), text)
            self.assertEqual(write(read(text)), text)
            self.assertEqual(write(program), text)

    def test_only_signs_of_a_text(self):
        chance = random.Random(21)
        for turn in range(50):
            for line in write(any_program(chance)).split("\n"):
                self.assertTrue(0 < len(line) <= 100 and line == line.strip() and "  " not in line, line)


if __name__ == "__main__":
    unittest.main()
