"""reads, gives and needed."""

import random
import unittest

from dimhouse.needs import gives, needed, reads
from programs import BOXES, any_program, needed_there, program_of

# A row, the boxes that it reads, the box that it sets.
ROWS = (
    (("copy", "x", "a"), ["a"], "x"), (("copy", "x", 5), [], "x"), (("copy", "x", "x"), ["x"], "x"),
    (("copy", "copy", "op"), ["op"], "copy"),
    (("op", "x", "+", "a", "b"), ["a", "b"], "x"), (("op", "x", "+", "b", "a"), ["b", "a"], "x"),
    (("op", "x", "-", "a", "a"), ["a"], "x"), (("op", "x", "*", "a", 1), ["a"], "x"), (("op", "x", "<", 1, "b"), ["b"], "x"),
    (("op", "x", "=", 1, 2), [], "x"), (("op", "x", "&", "x", "a"), ["x", "a"], "x"),
    (("op", "x", "|", "a", "x"), ["a", "x"], "x"), (("op", "x", "^", "x", "x"), ["x"], "x"),
    (("load", "x", "c"), [], "x"), (("load", "c", "c"), [], "c"),
    (("store", "c", "a"), ["a"], None), (("store", "c", 0), [], None), (("store", "c", "c"), ["c"], None),
    (("take", "x", "f", "a"), ["a"], "x"), (("take", "x", "f", 3), [], "x"), (("take", "x", "f", "x"), ["x"], "x"),
    (("take", "f", "f", "f"), ["f"], "f"),
    (("lay", "f", "a", "b"), ["a", "b"], None), (("lay", "f", "b", "a"), ["b", "a"], None),
    (("lay", "f", "a", "a"), ["a"], None), (("lay", "f", 1, "b"), ["b"], None), (("lay", "f", "a", 2), ["a"], None),
    (("lay", "f", 1, 2), [], None), (("lay", "f", "f", "a"), ["f", "a"], None),
    (("hear", "x"), [], "x"), (("hear", "hear"), [], "hear"),
    (("say", "a"), ["a"], None), (("say", 0), [], None),
    (("if", "a", 0), ["a"], None), (("if", 1, 0), [], None), (("if", "if", 3), ["if"], None),
    (("go", 0), [], None), (("go", 7), [], None),
    (("end", "a"), ["a"], None), (("end", 0), [], None), (("end", "end"), ["end"], None),
)


class Rows(unittest.TestCase):
    def test_reads(self):
        for row, boxes, box in ROWS:
            self.assertEqual(reads(row), boxes, row)
            self.assertIs(type(reads(row)), list)

    def test_gives(self):
        for row, boxes, box in ROWS:
            self.assertEqual(gives(row), box, row)

    def test_the_list_is_the_askers_own(self):
        for row, boxes, box in ROWS:
            first = reads(row)
            first.append("z")
            self.assertEqual(reads(row), boxes, row)
            first.clear()
            self.assertEqual(reads(row), boxes, row)


class Needed(unittest.TestCase):
    def check(self, rows, expected):
        self.assertEqual(needed(program_of(*rows)), expected)

    def test_straight_rows(self):
        rows = (("copy", "x", 1), ("op", "y", "+", "x", "a"), ("say", "y"), ("end", "b"))
        self.check(rows, [["a", "b"], ["a", "b", "x"], ["b", "y"], ["b"]])

    def test_nothing_is_needed(self):
        self.check((("end", 0),), [[]])
        self.check((("go", 0),), [[]])
        self.check((("hear", "x"), ("copy", "y", "x"), ("end", 0)), [[], ["x"], []])

    def test_a_row_reads_ahead_of_setting(self):
        self.check((("op", "x", "+", "x", 1), ("end", 0)), [["x"], []])
        self.check((("copy", "x", "x"), ("end", "x")), [["x"], ["x"]])
        self.check((("take", "x", "f", "x"), ("end", "x")), [["x"], ["x"]])

    def test_each_row_that_sets(self):
        for row in (("copy", "x", 0), ("op", "x", "+", 1, 2), ("load", "x", "c"), ("take", "x", "f", 0), ("hear", "x")):
            self.check((row, ("end", "x")), [[], ["x"]])

    def test_each_row_that_sets_nothing(self):
        for row in (("store", "c", 0), ("lay", "f", 0, 0), ("say", 0), ("if", 0, 1), ("go", 1)):
            self.check((row, ("end", "x")), [["x"], ["x"]])

    def test_cells_and_shelves_are_no_boxes(self):
        self.check((("load", "x", "c"), ("store", "c", 0), ("lay", "f", 0, 0), ("take", "y", "f", 0), ("end", 0)), [[]] * 5)
        self.check((("load", "c", "c"), ("store", "c", "c"), ("end", 0)), [[], ["c"], []])
        self.check((("store", "c", 1), ("end", "c")), [["c"], ["c"]])

    def test_set_on_one_way_and_not_on_the_other(self):
        self.check((("if", "a", 2), ("copy", "x", 1), ("end", "x")), [["a", "x"], [], ["x"]])
        self.check((("if", 0, 2), ("copy", "x", 1), ("end", "x")), [["x"], [], ["x"]])
        self.check((("if", 1, 3), ("copy", "x", 1), ("go", 4), ("copy", "x", 2), ("end", "x")), [[], [], ["x"], [], ["x"]])

    def test_needed_on_one_way_and_not_on_the_other(self):
        self.check((("if", "a", 2), ("end", "b"), ("end", "c")), [["a", "b", "c"], ["b"], ["c"]])

    def test_loop(self):
        rows = (("copy", "i", 9), ("say", "x"), ("op", "i", "-", "i", 1), ("if", "i", 1), ("end", "y"))
        self.check(rows, [["x", "y"], ["i", "x", "y"], ["i", "x", "y"], ["i", "x", "y"], ["y"]])

    def test_loop_that_reads_what_its_last_round_set(self):
        rows = (("say", "x"), ("hear", "x"), ("if", "x", 0), ("end", 0))
        self.check(rows, [["x"], [], ["x"], []])

    def test_loop_without_an_end(self):
        self.check((("say", "x"), ("copy", "y", "z"), ("go", 0)), [["x", "z"]] * 3)
        self.check((("go", 1), ("go", 0)), [[], []])

    def test_loop_that_nothing_leads_into(self):
        self.check((("end", "a"), ("say", "x"), ("copy", "y", 0), ("go", 1)), [["a"], ["x"], ["x"], ["x"]])
        self.check((("end", 0), ("if", "x", 1), ("end", "y")), [[], ["x", "y"], ["y"]])

    def test_loops_back_through_many_rows(self):
        # Each go leads one row back, so what the first row needs is found one going-through at a time.
        rows = [("end", "x")] + [("go", number) for number in range(59)]
        self.check(rows, [["x"]] * 60)
        rows = [("go", number + 1) for number in range(59)] + [("end", "x")]
        self.check(rows, [["x"]] * 60)

    def test_many_boxes_in_order(self):
        names = ["l", "b", "ab", "a", "zz", "z", "aaa", "k", "if", "m", "f", "c"]
        rows = [("say", name) for name in names] + [("end", 0)]
        self.check(rows, [sorted(names[number:]) for number in range(13)])

    def test_each_list_is_the_askers_own(self):
        rows = (("say", "x"), ("say", 0), ("if", "x", 0), ("go", 4), ("end", 0))
        expected = [["x"], ["x"], ["x"], [], []]
        first = needed(program_of(*rows))
        for number in range(5):
            first[number].append("z")
            self.assertEqual([boxes.count("z") for boxes in first], [1] * (number + 1) + [0] * (4 - number))
        self.check(rows, expected)
        first.clear()
        self.check(rows, expected)

    def test_any_programs(self):
        chance = random.Random(8)
        for turn in range(1500):
            program = any_program(chance, 20)
            found = needed(program)
            rows = program[2]
            expected = [[box for box in sorted(BOXES) if needed_there(rows, number, box)] for number in range(len(rows))]
            self.assertEqual(found, expected, rows)
            self.assertEqual(needed(program), expected)
            self.assertTrue(all(type(boxes) is list for boxes in found))

    def test_greatest_programs(self):
        chance = random.Random(9)
        for turn in range(30):
            program = any_program(chance, 60)
            rows = program[2]
            for number, boxes in enumerate(needed(program)):
                self.assertEqual(boxes, [box for box in sorted(BOXES) if needed_there(rows, number, box)])


if __name__ == "__main__":
    unittest.main()
