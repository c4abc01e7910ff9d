"""look: what it tells of, and what it refuses."""

import random
import unittest

from dimhouse.errors import DimError, Falls, Unknown
from dimhouse.looker import look
from dimhouse.texts import read
from programs import CELLS, KINDS, SHELVES, any_program, led, program_of

GOOD = program_of(*KINDS)
# Rows that name what is no cell, or no shelf, and what each names.
UNKNOWN = (
    (("load", "x", "none"), "none"), (("load", "x", "f"), "f"), (("load", "x", "x"), "x"), (("load", "c", "x"), "x"),
    (("store", "none", "x"), "none"), (("store", "g", 0), "g"), (("store", "x", "c"), "x"),
    (("take", "x", "none", 0), "none"), (("take", "x", "c", 0), "c"), (("take", "f", "x", "f"), "x"),
    (("lay", "none", 0, 0), "none"), (("lay", "d", 0, 0), "d"), (("lay", "x", "f", "f"), "x"),
)


class Looking(unittest.TestCase):
    def check_good(self, program):
        self.assertIs(look(program), True, program)

    def check_refused(self, program, error, **fields):
        with self.assertRaises(error) as taken:
            look(program)
        self.assertIs(type(taken.exception), error)
        self.assertIsInstance(taken.exception, DimError)
        self.assertEqual(vars(taken.exception), fields, program)
        for name, field in fields.items():
            self.assertIs(type(getattr(taken.exception, name)), type(field))


class Good(Looking):
    def test_every_kind_of_row(self):
        self.check_good(GOOD)

    def test_each_kind_by_itself(self):
        for row in KINDS:
            self.check_good(program_of(row, ("end", 0)))

    def test_each_cell_and_each_shelf(self):
        for name in [cell[0] for cell in CELLS]:
            self.check_good(program_of(("load", "x", name), ("store", name, "x"), ("end", 0)))
        for name in [shelf[0] for shelf in SHELVES]:
            self.check_good(program_of(("take", "x", name, 0), ("lay", name, 0, "x"), ("end", 0)))

    def test_last_rows(self):
        self.check_good(program_of(("end", 0)))
        self.check_good(program_of(("go", 0)))
        self.check_good(program_of(("say", 0), ("go", 0)))
        self.check_good(program_of(("go", 1), ("end", 0)))
        self.check_good(program_of(("if", 0, 1), ("end", 0)))

    def test_boxes_called_like_cells_and_shelves(self):
        self.check_good(program_of(("load", "f", "c"), ("take", "c", "f", "c"), ("store", "c", "none"), ("end", "f")))

    def test_no_cells_and_no_shelves(self):
        self.check_good(((), (), (("hear", "x"), ("say", "x"), ("end", "x"))))

    def test_read_from_a_text(self):
        self.check_good(read("cell c 0\nat l\nload x c\nif x l\nend x"))

    def test_greatest_program(self):
        cells = tuple(("n" + letter, 0, False) for letter in "abcdefgh")
        shelves = tuple(("s" + letter, 8, True) for letter in "abcd")
        rows = tuple(("if", "x", 59 - number) for number in range(59)) + (("end", 0),)
        self.check_good((cells, shelves, rows))
        self.check_refused((cells, shelves, rows[:-1] + (("load", "x", "ni"),)), Unknown, word="ni", row=59)
        self.check_refused((cells, shelves, rows[:-1] + (("if", "x", 59),)), Falls, row=59)

    def test_somewhat_beyond_the_bounds(self):
        rows = tuple(("say", number) for number in range(200)) + (("go", 200),)
        self.check_good(((), (), rows))
        self.check_refused(((), (), rows[:-1] + (("go", 201),)), Falls, row=200)


class Unknowns(Looking):
    def test_at_the_first_a_middle_and_the_last_row(self):
        for row, word in UNKNOWN:
            for place in (0, 2, 4):
                rows = [("say", 0), ("if", "x", 0), ("hear", "x"), ("copy", "x", 1)]
                rows.insert(place, row)
                if place < 4:
                    rows.append(("end", 0))
                self.check_refused(program_of(*rows), Unknown, word=word, row=place)

    def test_the_first_of_several(self):
        rows = (("say", 0), ("store", "h", 0), ("load", "x", "none"), ("lay", "m", 0, 0), ("end", 0))
        self.check_refused(program_of(*rows), Unknown, word="h", row=1)
        self.check_refused(program_of(*reversed(rows)), Unknown, word="m", row=1)

    def test_no_cells_and_no_shelves(self):
        for row, word in UNKNOWN:
            self.check_refused(((), (), (row, ("end", 0))), Unknown, word=word, row=0)

    def test_a_row_that_no_way_comes_to(self):
        self.check_refused(program_of(("end", 0), ("load", "x", "none"), ("end", 0)), Unknown, word="none", row=1)

    def test_goes_ahead_of_falls(self):
        for row, word in UNKNOWN:
            self.check_refused(program_of(("go", 9), row), Unknown, word=word, row=1)
            self.check_refused(program_of(("if", 0, 9), ("end", 0), row, ("say", 0)), Unknown, word=word, row=2)
            self.check_refused(program_of(row), Unknown, word=word, row=0)


class Fallings(Looking):
    def test_no_rows(self):
        self.check_refused(program_of(), Falls, row=0)
        self.check_refused(((), (), ()), Falls, row=0)

    def test_off_the_end(self):
        for row in KINDS:
            if row[0] in ("go", "end"):
                continue
            self.check_refused(program_of(row), Falls, row=0)
            self.check_refused(program_of(("end", 0), ("go", 0), row), Falls, row=2)

    def test_beyond_the_rows(self):
        for there in (3, 4, 60, 61, 1000, 10 ** 30):
            for leading in (("go", there), ("if", "x", there), ("if", 0, there)):
                self.check_refused(program_of(leading, ("say", 0), ("end", 0)), Falls, row=0)
                self.check_refused(program_of(("say", 0), leading, ("end", 0)), Falls, row=1)
                self.check_refused(program_of(("say", 0), ("end", 0), leading), Falls, row=2)

    def test_the_first_of_several(self):
        self.check_refused(program_of(("say", 0), ("if", 0, 4), ("go", 9), ("say", 0)), Falls, row=1)
        self.check_refused(program_of(("say", 0), ("if", 0, 3), ("go", 9), ("say", 0)), Falls, row=2)
        self.check_refused(program_of(("say", 0), ("if", 0, 3), ("go", 3), ("say", 0)), Falls, row=3)

    def test_a_row_that_no_way_comes_to(self):
        self.check_refused(program_of(("end", 0), ("say", 0)), Falls, row=1)

    def test_the_number_of_rows_as_a_text_may_tell_it(self):
        self.check_refused(read("if x l\nend 0\nat l"), Falls, row=0)
        self.check_refused(read("cell c 0"), Falls, row=0)


class Often(Looking):
    def test_before_and_behind_a_refusal(self):
        self.check_good(GOOD)
        self.check_refused(program_of(("load", "x", "none")), Unknown, word="none", row=0)
        self.check_good(GOOD)
        self.check_refused(program_of(("say", 0)), Falls, row=0)
        self.check_refused(program_of(), Falls, row=0)
        self.check_good(GOOD)

    def test_any_programs(self):
        chance = random.Random(3)
        names = {"load": (2, CELLS), "store": (1, CELLS), "take": (2, SHELVES), "lay": (1, SHELVES)}
        for turn in range(2000):
            cells, shelves, rows = any_program(chance)
            self.check_good((cells, shelves, rows))
            fewer = (cells[chance.randint(0, 1):], shelves[chance.randint(0, 1):], rows[:chance.randint(0, len(rows))])
            left = [head[0] for head in fewer[0] + fewer[1]]
            lacks = [(row[names[row[0]][0]], number) for number, row in enumerate(fewer[2]) if row[0] in names]
            lacks = [lack for lack in lacks if lack[0] not in left]
            count = len(fewer[2])
            falls = [number for number, row in enumerate(fewer[2]) if max(led(number, row), default=0) >= count]
            if lacks:
                self.check_refused(fewer, Unknown, word=lacks[0][0], row=lacks[0][1])
            elif falls or not fewer[2]:
                self.check_refused(fewer, Falls, row=falls[0] if falls else 0)
            else:
                self.check_good(fewer)


if __name__ == "__main__":
    unittest.main()
