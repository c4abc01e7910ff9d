"""read: what it tells and what it refuses."""

import random
import re
import unittest

from dimhouse.errors import BadLine, NoLabel, Twice
from dimhouse.texts import read
from dimhouse.words import WIDE

NAME = "[a-z]{1,6}"
VALUE = "(?:0|[1-9][0-9]{0,12})"
ATOM = f"(?:{NAME}|{VALUE})"
LABEL = "[a-z0-9]{1,8}"
# The forms once more, told another way than the program tells them.
HEAD = re.compile(f"(?:cell|twin) {NAME} {VALUE}|(?:shelf|twins) {NAME} [1-8]")
OTHER = re.compile("|".join((
    f"{NAME} = {ATOM}", f"{NAME} = {ATOM} [-+*<=&|^] {ATOM}", f"load {NAME} {NAME}", f"store {NAME} {ATOM}",
    f"take {NAME} {NAME} {ATOM}", f"lay {NAME} {ATOM} {ATOM}", f"hear {NAME}", f"(?:say|end) {ATOM}",
    f"if {ATOM} {LABEL}", f"go {LABEL}", f"at {LABEL}",
)))

# One good row of each kind that has no label, and what it is read to.
ROWS = {
    "x = 5": ("copy", "x", 5),
    "x = y": ("copy", "x", "y"),
    "x = y + 1": ("op", "x", "+", "y", 1),
    "load x c": ("load", "x", "c"),
    "store c x": ("store", "c", "x"),
    "store c 0": ("store", "c", 0),
    "take x f 3": ("take", "x", "f", 3),
    "lay f i 9": ("lay", "f", "i", 9),
    "hear x": ("hear", "x"),
    "say 1099511627775": ("say", WIDE - 1),
    "end x": ("end", "x"),
}

# Rows that are none at any place.
BAD = (
    "", " ", "  ", "x", "=", "x =", "= x", "= = 1", "x = =", "x == 1", "x=1", "x = 1 +", "x = + 1", "x = 1 + 2 +",
    "x = 1 + 2 + 3", "x = 1 % 2", "x = 1 / 2", "x = 1 > 2", "x = 1 ! 2", "x = 1 -- 2", "x = 1 +- 2", "x = 1 and 2",
    "x = y z", "x = = = =", "X = 1", "x = Y", "x1 = 1", "x = y1", "abcdefg = 1", "x = abcdefg", "1 = x", "x = 01",
    "x = 1099511627776", "x = 9999999999999", "x = 10000000000000", "x = -1", "x = +1", "x = 1 + 00", "x = 00 + 1",
    " x = 1", "x = 1 ", "x  = 1", "x =  1", "x = 1  ", "x = 1  + 2", "x = 1 +  2", "x\t=\t1", "x = 1\t", "x = 1\r",
    "load", "load x", "load x c d", "load 1 c", "load x 1", "load X c", "load x C", "load  x c", "load x  c",
    "load x c ", " load x c", "load abcdefg c", "load x abcdefg", "Load x c", "loads x c", "loadx c",
    "store", "store c", "store c x y", "store 1 x", "store c X", "store c x1", "store c 01",
    "take", "take x", "take x f", "take x f 1 2", "take 1 f 1", "take x 1 1", "take x f 1x",
    "lay", "lay f", "lay f 1", "lay f 1 2 3", "lay 1 1 2", "lay f -1 2", "lay f 1 1099511627776",
    "hear", "hear 1", "hear x y", "hear X", "hear ", "say", "say x y", "say X", "say ", "say 1.5", "say -1",
    "end", "end x y", "end X", "end ", "end 00",
    "if", "if x", "if x l m", "if X l", "if x L", "if x abcdefghi", "if x l-", "if 01 l", "if  l", "if x ",
    "go", "go ", "go l m", "go L", "go abcdefghi", "go l:", "goto l",
    "at", "at ", "at l m", "at L", "at abcdefghi", "at -1", "at =", "At l", "at l ", "at  l",
    "copy x 1", "op x + 1 2", "stop", "x = 1; y = 2", "# x", "x = 1 # y",
)

# Rows for cells and shelves that are none at any place, but for `cell =` and its like.
BAD_HEADS = (
    "cell", "cell a", "cell a 0 1", "cell 0 a", "cell a b", "cell A 0", "cell a1 0", "cell abcdefg 0", "cell a 00",
    "cell a 01", "cell a -1", "cell a +1", "cell a 1099511627776", "cell a 10000000000000", "cell  a 0", "cell a  0",
    "cell a 0 ", " cell a 0", "cell a ", "Cell a 0", "cells a 0", "twin", "twin a", "twin a b", "twin a 0 0", "twin 1 0",
    "twin a 1099511627776", "shelf", "shelf a", "shelf a 0", "shelf a 9", "shelf a 10", "shelf a 12", "shelf a 01",
    "shelf a 08", "shelf a 00", "shelf a b", "shelf a -1", "shelf a +1", "shelf a 1 1", "shelf 1 1", "shelf A 1",
    "shelf abcdefg 1", "shelf a ", "shelf  a 1", "shelf a 1 ", "shelves a 1", "twins", "twins a", "twins a 0",
    "twins a 9", "twins a 10", "twins a 11", "twins a 08", "twins a b", "twins a 1 1", "twins 1 1", "twin a1 1",
    "cell =", "cell = =", "twin =", "shelf =", "twins =",
)


class Reading(unittest.TestCase):
    def refuse(self, text, error, field):
        with self.assertRaises(error) as taken:
            read(text)
        self.assertIs(type(taken.exception), error)
        told = taken.exception.at if error is BadLine else taken.exception.word
        self.assertEqual(told, field, repr(text))
        self.assertIs(type(told), type(field))


class Told(Reading):
    def test_each_kind_of_row(self):
        for text, row in ROWS.items():
            self.assertEqual(read(text), ((), (), (row,)), text)

    def test_each_sign(self):
        for sign in "+-*<=&|^":
            self.assertEqual(read(f"x = a {sign} 2")[2], (("op", "x", sign, "a", 2),))

    def test_all_rows_in_their_order(self):
        self.assertEqual(read("\n".join(ROWS))[2], tuple(ROWS.values()))

    def test_cells_and_shelves_in_any_order(self):
        text = "shelf f 8\ntwin b 7\ntwins g 1\ncell a 0\ncell c 1099511627775\nend 0"
        cells = (("b", 7, True), ("a", 0, False), ("c", WIDE - 1, False))
        shelves = (("f", 8, False), ("g", 1, True))
        self.assertEqual(read(text), (cells, shelves, (("end", 0),)))

    def test_kinds_of_what_is_told(self):
        program = read("cell a 1\ntwin b 0\nshelf f 1\ntwins g 2\nat l\nx = 1\nif x l\ngo l")
        for part in program:
            self.assertIs(type(part), tuple)
            for one in part:
                self.assertIs(type(one), tuple)
        for head in program[0] + program[1]:
            self.assertEqual([type(one) for one in head], [str, int, bool])
        self.assertEqual([head[2] for head in program[0] + program[1]], [False, True, False, True])
        self.assertEqual([type(one) for one in program[2][0]], [str, str, int])
        self.assertEqual([type(one) for one in program[2][1]], [str, str, int])
        self.assertEqual([type(one) for one in program[2][2]], [str, int])

    def test_no_rows_of_a_program(self):
        self.assertEqual(read("cell a 3"), ((("a", 3, False),), (), ()))
        self.assertEqual(read("twins f 3"), ((), (("f", 3, True),), ()))
        self.assertEqual(read("at l"), ((), (), ()))
        self.assertEqual(read("cell a 3\nat l\nat m"), ((("a", 3, False),), (), ()))

    def test_every_size(self):
        for size in range(1, 9):
            self.assertEqual(read(f"shelf f {size}")[1], (("f", size, False),))
            self.assertEqual(read(f"twins f {size}")[1], (("f", size, True),))

    def test_names_of_cells_like_words(self):
        text = "cell cell 0\ntwin at 1\nshelf shelf 2\ntwins if 3\nstore cell 0"
        program = read(text)
        self.assertEqual(program[0], (("cell", 0, False), ("at", 1, True)))
        self.assertEqual(program[1], (("shelf", 2, False), ("if", 3, True)))

    def test_a_box_may_be_called_like_a_cell(self):
        self.assertEqual(read("cell a 0\nload a a\nstore a a")[2], (("load", "a", "a"), ("store", "a", "a")))

    def test_a_row_with_equals_is_a_copy_or_an_op(self):
        for word in ("cell", "twin", "shelf", "twins", "at", "load", "store", "take", "lay", "hear", "say", "if", "go",
                     "end", "copy", "op"):
            self.assertEqual(read(f"{word} = at")[2], (("copy", word, "at"),))
            self.assertEqual(read(f"{word} = 1 = {word}")[2], (("op", word, "=", 1, word),))

    def test_names_as_atoms_like_words(self):
        self.assertEqual(read("at go\nif if go\nsay at\nend end")[2], (("if", "if", 0), ("say", "at"), ("end", "end")))

    def test_what_is_no_cell_is_read(self):
        self.assertEqual(read("load x c\ntake x c 0")[2], (("load", "x", "c"), ("take", "x", "c", 0)))


class Labels(Reading):
    def test_several_ahead_of_one_row(self):
        text = "at a\nat b\nat 7\nx = 1\nat c\ngo a\ngo b\ngo 7\nif x c"
        self.assertEqual(read(text)[2], (("copy", "x", 1), ("go", 0), ("go", 0), ("go", 0), ("if", "x", 1)))

    def test_several_at_the_end(self):
        self.assertEqual(read("go a\nif 0 b\nat a\nat b")[2], (("go", 2), ("if", 0, 2)))

    def test_heads_do_not_count(self):
        self.assertEqual(read("cell a 0\nshelf f 1\nx = 1\nat l\ngo l")[2], (("copy", "x", 1), ("go", 1)))

    def test_any_label(self):
        for label in ("a", "0", "00", "r1", "zzzzzzzz", "12345678", "at", "if", "go", "cell"):
            self.assertEqual(read(f"at {label}\ngo {label}")[2], (("go", 0),))
            self.assertEqual(read(f"if x {label}\nat {label}")[2], (("if", "x", 1),))

    def test_ahead_and_behind(self):
        self.assertEqual(read("go b\nat a\nend 0\nat b\ngo a")[2], (("go", 2), ("end", 0), ("go", 1)))

    def test_a_label_that_none_leads_to(self):
        self.assertEqual(read("at a\nend 0\nat b")[2], (("end", 0),))

    def test_a_label_may_be_called_like_a_cell(self):
        self.assertEqual(read("cell a 0\nshelf b 1\nat a\nat b\ngo b")[2], (("go", 0),))

    def test_labels_are_unlike_by_each_sign(self):
        self.assertEqual(read("at 1\nx = 0\nat 01\ngo 1\ngo 01")[2], (("copy", "x", 0), ("go", 0), ("go", 1)))


class BadLines(Reading):
    def test_the_text_without_signs(self):
        self.refuse("", BadLine, 0)

    def test_line_feeds_part_rows(self):
        self.refuse("\n", BadLine, 0)
        self.refuse("end 0\n", BadLine, 1)
        self.refuse("\nend 0", BadLine, 0)
        self.refuse("x = 1\n\nend 0", BadLine, 1)
        self.refuse("x = 1\r\nend 0", BadLine, 0)

    def test_at_the_first_a_middle_and_the_last_row(self):
        for bad in BAD + BAD_HEADS:
            self.refuse(bad, BadLine, 0)
            self.refuse(bad + "\ncell a 0\nend 0", BadLine, 0)
            self.refuse("cell z 0\n" + bad + "\nend 0", BadLine, 1)
            self.refuse("cell z 0\nx = 1\n" + bad + "\nend 0", BadLine, 2)
            self.refuse("cell z 0\nat l\nx = 1\nend 0\n" + bad, BadLine, 4)

    def test_the_first_of_two(self):
        self.refuse("x = 1\nfoo\nx = 2\nfoo", BadLine, 1)
        self.refuse("x = 1\ncell a 0\nfoo", BadLine, 1)
        self.refuse("x = 1\nfoo\ncell a 0", BadLine, 1)

    def test_heads_behind_others(self):
        for head in ("cell a 0", "twin a 0", "shelf a 1", "twins a 1"):
            self.assertEqual(len(read(head + "\nend 0")[2]), 1)
            for other in list(ROWS) + ["at l", "cell = 0", "twins = 1 + 1"]:
                self.refuse(other + "\n" + head, BadLine, 1)
                self.refuse("cell z 0\n" + other + "\n" + head + "\nend 0", BadLine, 2)
            self.refuse("at l\ngo l\n" + head, BadLine, 2)
            self.refuse("at l\nif 1 l\n" + head, BadLine, 2)
            self.refuse("end 0\nend 0\nend 0\n" + head, BadLine, 3)

    def test_long_rows(self):
        self.refuse("x" * 100, BadLine, 0)
        self.refuse("end 0\n" + " " * 100, BadLine, 1)
        self.refuse("end 0\nsay " + "1" * 96, BadLine, 1)

    def test_the_last_of_the_most_rows(self):
        self.refuse("\n".join(["x = 1"] * 199 + ["foo"]), BadLine, 199)


class TwiceThere(Reading):
    def test_names(self):
        for one in ("cell a 0", "twin a 1", "shelf a 2", "twins a 3"):
            for other in ("cell a 0", "twin a 1", "shelf a 2", "twins a 3"):
                self.refuse(one + "\n" + other, Twice, "a")
                self.refuse("cell b 0\n" + one + "\nshelf c 1\n" + other + "\nend 0", Twice, "a")

    def test_labels(self):
        self.refuse("at a\nat a", Twice, "a")
        self.refuse("at a\nat a\nend 0", Twice, "a")
        self.refuse("at a\nx = 1\nat b\nat a\nend 0", Twice, "a")
        self.refuse("at 1\nend 0\nat 1", Twice, "1")

    def test_the_first_by_the_rows(self):
        self.refuse("cell a 0\ncell b 0\ncell b 0\ncell a 0", Twice, "b")
        self.refuse("at a\nat b\nat b\nat a", Twice, "b")
        self.refuse("cell a 0\nshelf b 1\ncell a 0\nshelf b 1", Twice, "a")
        self.refuse("shelf b 1\ncell a 0\ncell a 0\nshelf b 1", Twice, "a")

    def test_a_name_ahead_of_a_label(self):
        self.refuse("cell a 0\ncell a 0\nat b\nat b", Twice, "a")

    def test_three_times(self):
        self.refuse("cell a 0\ncell a 0\ncell a 0", Twice, "a")

    def test_boxes_do_not_count(self):
        self.assertEqual(len(read("cell a 0\na = 1\na = 2\nhear a")[2]), 3)


class NoLabels(Reading):
    def test_go_and_if(self):
        self.refuse("go a", NoLabel, "a")
        self.refuse("if x a", NoLabel, "a")
        self.refuse("if 1 7", NoLabel, "7")

    def test_at_the_first_a_middle_and_the_last_row(self):
        for row in ("go none", "if x none"):
            self.refuse(row + "\nat a\ngo a\nend 0", NoLabel, "none")
            self.refuse("at a\ngo a\n" + row + "\nend 0", NoLabel, "none")
            self.refuse("at a\ngo a\nend 0\n" + row, NoLabel, "none")

    def test_the_first_by_the_rows(self):
        self.refuse("go b\nif x a", NoLabel, "b")
        self.refuse("if x a\ngo b", NoLabel, "a")
        self.refuse("at a\ngo a\ngo c\ngo b", NoLabel, "c")

    def test_names_are_no_labels(self):
        self.refuse("cell a 0\nshelf f 1\ngo a", NoLabel, "a")
        self.refuse("x = 1\ngo x", NoLabel, "x")

    def test_numbers_are_no_labels(self):
        self.refuse("at a\ngo 0", NoLabel, "0")
        self.refuse("at r0\ngo r00", NoLabel, "r00")


class Order(Reading):
    def test_bad_line_first(self):
        self.refuse("cell a 0\ncell a 0\nfoo", BadLine, 2)
        self.refuse("at a\nat a\nend 0\nfoo", BadLine, 3)
        self.refuse("go none\nfoo", BadLine, 1)
        self.refuse("cell a 0\ncell a 0\ngo none\nat b\nat b\n", BadLine, 5)
        self.refuse("cell a 0\nend 0\ncell a 0", BadLine, 2)

    def test_twice_ahead_of_no_label(self):
        self.refuse("go none\nat a\nat a", Twice, "a")
        self.refuse("cell a 0\nshelf a 1\ngo none", Twice, "a")
        self.refuse("if x none\nat a\nend 0\nat a", Twice, "a")

    def test_refused_again_likewise(self):
        for turn in range(2):
            self.refuse("end 0\nfoo", BadLine, 1)
            self.refuse("cell a 0\ncell a 0", Twice, "a")
            self.refuse("go a", NoLabel, "a")
            self.assertEqual(read("at a\ngo a"), ((), (), (("go", 0),)))


class Bounds(Reading):
    def test_the_most_rows_of_a_text(self):
        heads = [f"twin c{letter} 0" for letter in "abcdefgh"] + [f"shelf f{letter} 8" for letter in "abcd"]
        labels = [f"at l{number}" for number in range(128)]
        text = "\n".join(heads + ["x = 1"] * 59 + labels + ["go l127"])
        self.assertEqual(text.count("\n"), 199)
        program = read(text)
        self.assertEqual([len(part) for part in program], [8, 4, 60])
        self.assertEqual(program[2][59], ("go", 59))

    def test_somewhat_beyond(self):
        heads = [f"cell c{letter} 0" for letter in "abcdefghijk"] + [f"shelf f{letter} 8" for letter in "abcdefg"]
        program = read("\n".join(heads + ["x = 1"] * 250))
        self.assertEqual([len(part) for part in program], [11, 7, 250])

    def test_asked_again(self):
        text = "cell a 0\ntwins f 2\nat l\nload x a\nif x l\nend x"
        self.assertEqual(read(text), read(text))
        self.assertEqual(text, "cell a 0\ntwins f 2\nat l\nload x a\nif x l\nend x")


def first_bad(lines):
    """The number of the first bad row by the patterns above, or None."""
    behind = False
    for number, line in enumerate(lines):
        great = [int(word) for word in line.split(" ") if word.isdigit() and len(word) == 13 and int(word) >= WIDE]
        head = HEAD.fullmatch(line) is not None
        if great or (head and behind) or (not head and OTHER.fullmatch(line) is None):
            return number
        behind = not head
    return None


class Anyhow(Reading):
    def test_any_rows_of_words(self):
        chance = random.Random(6)
        words = ("cell", "twin", "shelf", "twins", "at", "load", "store", "take", "lay", "hear", "say", "if", "go", "end",
                 "=", "=", "=", "+", "<", "x", "y", "f", "abcdef", "abcdefg", "l1", "0", "1", "8", "9", "01", "",
                 "1099511627775", "1099511627776", "10000000000000", "X", "-1")
        good = 0
        for turn in range(60000):
            line = " ".join(chance.choice(words) for word in range(chance.randint(1, 5)))
            bad = first_bad([line]) is not None
            try:
                read(line)
                self.assertFalse(bad, line)
                good += 1
            except NoLabel:
                self.assertFalse(bad, line)
            except BadLine as error:
                self.assertEqual((bad, error.at), (True, 0), line)
        self.assertGreater(good, 500)

    def test_any_texts(self):
        chance = random.Random(7)
        heads = ["cell {} 0", "twin {} 5", "shelf {} 8", "twins {} 1"]
        for turn in range(3000):
            lines = [chance.choice(heads).format(chance.choice("abcdefgh")) for row in range(chance.randint(0, 3))]
            lines += [chance.choice(list(ROWS)) for row in range(chance.randint(1, 4))]
            lines += ["at " + chance.choice("abcdefgh") for row in range(chance.randint(0, 3))]
            lines += ["go " + chance.choice("abcdefgh") for row in range(chance.randint(0, 2))]
            if chance.random() < 0.3:
                lines.insert(chance.randint(0, len(lines)), chance.choice(BAD + BAD_HEADS + ("cell h 0",)))
            self.check_refusal(lines)

    def check_refusal(self, lines):
        text = "\n".join(lines)
        bad = first_bad(lines)
        if bad is not None:
            return self.refuse(text, BadLine, bad)
        seen = []
        for line in lines:
            word = line.split(" ")[1]
            key = ("at" if line.startswith("at ") else "head", word)
            if HEAD.fullmatch(line) or (line.startswith("at ") and word != "="):
                if key in seen:
                    return self.refuse(text, Twice, word)
                seen.append(key)
        for line in lines:
            if line.startswith("go ") and ("at", line.split(" ")[1]) not in seen:
                return self.refuse(text, NoLabel, line.split(" ")[1])
        self.assertEqual(len(read(text)[0]) + len(read(text)[1]), len([line for line in lines if HEAD.fullmatch(line)]))


if __name__ == "__main__":
    unittest.main()
