"""spoilt."""

import copy
import random
import unittest

from dimhouse.spoils import spoilt
from programs import any_busy_program, any_cutting, any_program, can_spoil, cutting, is_piece_way, program_of, spoils

LOAD, STORE, END = ("load", "x", "c"), ("store", "c", "x"), ("end", 0)
TAKE, LAY = ("take", "x", "f", 0), ("lay", "f", 0, "x")
OTHER = ("copy", "y", 1)


class Case(unittest.TestCase):
    def check(self, rows, kept, expected, name="c"):
        """The way that is told of these rows with keeping-places at those; one where there is just one, or None."""
        program = program_of(*rows)
        code = cutting(*kept)
        found = spoilt(program, code, name)
        self.assertEqual(found, expected)
        self.assertEqual(can_spoil(program, code, name), expected is not None)
        if expected is not None:
            self.assertIs(type(found), list)
            self.assertTrue(is_piece_way(program, code, found))
            self.assertTrue(spoils(program, name, found))


class Cells(Case):
    def test_a_load_and_a_store_with_no_keeping_place_between(self):
        self.check((LOAD, STORE, END), (), [0, 1])
        self.check((LOAD, STORE, END), (2,), [0, 1])
        self.check((OTHER, LOAD, OTHER, OTHER, STORE, END), (5,), [0, 1, 2, 3, 4])
        self.check((OTHER, LOAD, ("go", 3), STORE, END), (4,), [0, 1, 2, 3])

    def test_a_keeping_place_at_the_stores_row(self):
        self.check((LOAD, STORE, END), (1,), None)
        self.check((OTHER, LOAD, OTHER, STORE, END), (3, 4), None)

    def test_a_keeping_place_at_the_loads_row(self):
        self.check((LOAD, STORE, END), (0,), [0, 1])
        self.check((OTHER, LOAD, OTHER, STORE, END), (1, 4), [1, 2, 3])

    def test_a_keeping_place_at_a_row_between(self):
        self.check((LOAD, OTHER, STORE, END), (1,), None)
        self.check((OTHER, LOAD, OTHER, OTHER, STORE, END), (3, 5), None)

    def test_a_keeping_place_ahead_of_the_load_and_behind_the_store(self):
        self.check((OTHER, OTHER, LOAD, STORE, OTHER, END), (1, 4), [1, 2, 3])

    def test_a_store_ahead_of_the_load(self):
        self.check((STORE, LOAD, STORE, END), (), None)
        self.check((STORE, OTHER, LOAD, LOAD, STORE, END), (5,), None)
        self.check((LOAD, STORE, LOAD, STORE, END), (1, 4), None)

    def test_a_keeping_place_between_the_store_and_the_load_behind_it(self):
        self.check((STORE, LOAD, STORE, END), (1, 3), [1, 2])
        self.check((STORE, LOAD, STORE, END), (2, 3), None)

    def test_a_store_alone_and_a_load_alone(self):
        self.check((STORE, STORE, END), (), None)
        self.check((LOAD, LOAD, END), (), None)
        self.check((END,), (), None)
        self.check((STORE, LOAD, END), (), None)

    def test_the_store_of_another_cell(self):
        self.check((LOAD, ("store", "m", "x"), END), (), None)
        self.check((LOAD, ("store", "m", "x"), END), (), None, name="m")
        self.check((("store", "m", 0), LOAD, STORE, END), (), [0, 1, 2])

    def test_boxes_called_like_the_cell(self):
        self.check((("copy", "c", "c"), STORE, END), (), None)
        self.check((("load", "c", "m"), STORE, END), (), None)
        self.check((("take", "c", "f", "c"), STORE, END), (), None)
        self.check((LOAD, ("store", "m", "c"), ("lay", "f", "c", "c"), ("hear", "c"), END), (), None)
        self.check((("store", "m", "c"), ("load", "c", "c"), ("store", "c", "c"), END), (), [0, 1, 2])

    def test_a_load_and_a_store_in_one_piece_by_a_loop_alone(self):
        self.check((OTHER, ("if", "y", 4), LOAD, ("go", 1), STORE, END), (), [0, 1, 2, 3, 1, 4])
        self.check((OTHER, ("if", "y", 4), LOAD, ("go", 1), STORE, END), (1, 5), None)
        # The store is ahead of the load in the rows, and in the way where it is not gone round.
        self.check((("if", "a", 2), ("go", 4), STORE, END, LOAD, ("go", 2)), (3,), [0, 1, 4, 5, 2])

    def test_a_loop_back_to_the_begins_row(self):
        rows = (("if", "a", 3), LOAD, ("go", 0), STORE, END)
        self.check(rows, (4,), [0, 1, 2, 0, 3])
        self.check(rows, (0, 4), None)
        # The begin's row itself loads, or stores.
        self.check((LOAD, ("if", "x", 0), END), (), None)
        self.check((LOAD, ("if", "x", 0), STORE, END), (0,), [0, 1, 2])
        self.check((STORE, LOAD, ("go", 0)), (), None)
        self.check((STORE, LOAD, ("go", 0)), (1,), [1, 2, 0])
        self.check((STORE, LOAD, ("go", 0)), (0,), None)

    def test_a_store_on_one_of_two_ways_to_the_load(self):
        rows = (("if", "a", 2), STORE, LOAD, STORE, END)
        self.check(rows, (), [0, 2, 3])
        self.check(rows, (2,), [2, 3])
        self.check((("if", "a", 3), STORE, ("go", 4), ("store", "c", 1), LOAD, STORE, END), (), None)

    def test_a_store_on_one_of_two_ways_behind_the_load(self):
        self.check((LOAD, ("if", "x", 3), STORE, END), (), [0, 1, 2])
        self.check((LOAD, ("if", "x", 3), END, STORE, END), (), [0, 1, 3])

    def test_the_begin_is_where_a_piece_begins_though_row_0_is_a_keeping_place(self):
        self.check((LOAD, STORE, END), (0, 2), [0, 1])
        self.check((OTHER, LOAD, STORE, END), (0,), [0, 1, 2])
        self.check((OTHER, LOAD, STORE, END), (0, 1, 3), [1, 2])

    def test_a_piece_among_rows_that_no_way_comes_to(self):
        rows = (("end", 0), LOAD, STORE, END)
        self.check(rows, (0, 3), None)
        self.check(rows, (0, 1, 3), [1, 2])
        self.check(rows, (0, 2, 3), None)
        self.check((("go", 4), OTHER, LOAD, STORE, END), (1, 4), [1, 2, 3])

    def test_the_boxes_of_a_cutting_are_nothing_to_it(self):
        program = program_of(LOAD, STORE, END)
        for code in ((("c", "x"), ((2, ("c", "x")),)), (("a",), ((0, ()), (2, ("zz",))))):
            self.assertEqual(spoilt(program, code, "c"), [0, 1])
        self.assertIsNone(spoilt(program, (("x",), ((1, ("x",)),)), "c"))


class Shelves(Case):
    def check(self, rows, kept, expected, name="f"):
        super().check(rows, kept, expected, name)

    def test_a_take_and_a_lay_at_the_same_place(self):
        self.check((TAKE, LAY, END), (), [0, 1])
        self.check((OTHER, ("take", "x", "f", "a"), OTHER, ("lay", "f", "a", 0), END), (4,), [0, 1, 2, 3])

    def test_a_take_and_a_lay_at_another_place(self):
        self.check((("take", "x", "f", 1), LAY, END), (), [0, 1])
        self.check((("take", "x", "f", "a"), ("lay", "f", 2, "x"), END), (2,), [0, 1])

    def test_keeping_places(self):
        rows = (OTHER, TAKE, OTHER, LAY, END)
        self.check(rows, (0,), [0, 1, 2, 3])
        self.check(rows, (1,), [1, 2, 3])
        self.check(rows, (2,), None)
        self.check(rows, (3,), None)
        self.check(rows, (4,), [0, 1, 2, 3])

    def test_a_lay_ahead_of_the_take(self):
        self.check((LAY, TAKE, LAY, END), (), [0, 1, 2])
        self.check((LAY, OTHER, TAKE, OTHER, LAY, END), (5,), [0, 1, 2, 3, 4])
        self.check((LAY, TAKE, END), (), None)
        self.check((LAY, LAY, END), (), None)
        self.check((TAKE, TAKE, END), (), None)

    def test_another_shelf(self):
        self.check((TAKE, ("lay", "h", 0, "x"), END), (), None)
        self.check((TAKE, ("lay", "h", 0, "x"), END), (), None, name="h")
        self.check((("take", "f", "h", "f"), LAY, END), (), None)
        self.check((("lay", "h", 0, 0), TAKE, LAY, END), (), [0, 1, 2])

    def test_loops(self):
        self.check((("if", "a", 3), TAKE, ("go", 0), LAY, END), (), [0, 1, 2, 0, 3])
        self.check((("if", "a", 3), TAKE, ("go", 0), LAY, END), (0,), None)
        self.check((LAY, TAKE, ("if", "x", 0), END), (3,), [0, 1, 2, 0])
        self.check((LAY, TAKE, ("if", "x", 0), END), (0, 3), None)

    def test_a_piece_among_rows_that_no_way_comes_to(self):
        self.check((("end", 0), TAKE, LAY, END), (0, 3), None)
        self.check((("end", 0), TAKE, LAY, END), (0, 1, 3), [1, 2])


class Twins(Case):
    def test_twins_are_never_spoilt(self):
        self.check((("load", "x", "d"), ("store", "d", "x"), END), (), None, name="d")
        self.check((("take", "x", "g", 0), ("lay", "g", 0, "x"), END), (), None, name="g")
        self.check((("load", "x", "d"), ("store", "d", "x"), LOAD, STORE, END), (), [0, 1, 2, 3])
        self.check((("take", "x", "g", 0), ("lay", "g", 0, "x"), TAKE, LAY, END), (), [0, 1, 2, 3], name="f")

    def test_a_cell_and_its_twin_of_the_same_rows(self):
        rows = (LOAD, STORE, END)
        self.assertIsNone(spoilt(((("c", 5, True),), (), rows), cutting(), "c"))
        self.assertEqual(spoilt(((("c", 5, False),), (), rows), cutting(), "c"), [0, 1])


class Any(unittest.TestCase):
    def check(self, program, code):
        """How many names can be spoilt, each of them and the others looked at."""
        found = [name for name in "cdmfgh" if self.check_name(program, code, name)]
        return len(found)

    def check_name(self, program, code, name):
        way = spoilt(program, code, name)
        self.assertEqual(way is not None, can_spoil(program, code, name), (program, code, name))
        if way is not None:
            self.assertTrue(is_piece_way(program, code, way), (program, code, way))
            self.assertTrue(spoils(program, name, way), (program, code, way))
        return way is not None

    def test_any_programs_and_cuttings(self):
        chance = random.Random(31)
        counts = [0] * 7
        for turn in range(3000):
            program = (any_program if turn % 5 == 0 else any_busy_program)(chance, 14)
            counts[self.check(program, any_cutting(chance, program))] += 1
        self.assertTrue(counts[0] > 200 and counts[1] > 200 and sum(counts[2:]) > 20, counts)

    def test_greatest_programs(self):
        chance = random.Random(32)
        for turn in range(60):
            program = any_busy_program(chance, 60)
            self.check(program, any_cutting(chance, program))

    def test_a_way_of_many_rows(self):
        rows = [OTHER] * 57 + [LOAD, STORE, END]
        self.assertEqual(spoilt(program_of(*rows), cutting(59), "c"), list(range(59)))
        rows = [LOAD] + [OTHER] * 57 + [STORE, END]
        self.assertEqual(spoilt(program_of(*rows), cutting(59), "c"), list(range(59)))

    def test_nothing_handed_in_is_changed_and_equal_questions_get_equal_answers(self):
        chance = random.Random(33)
        for turn in range(200):
            program = any_busy_program(chance, 10)
            code = any_cutting(chance, program)
            twin = copy.deepcopy((program, code))
            for name in "cdmfgh":
                first = spoilt(program, code, name)
                expected = copy.deepcopy(first)
                if first is not None:
                    first.append(0)
                self.assertEqual(spoilt(program, code, name), expected)
                self.assertEqual(spoilt(twin[0], twin[1], name), expected)
            self.assertEqual((program, code), twin)


if __name__ == "__main__":
    unittest.main()
