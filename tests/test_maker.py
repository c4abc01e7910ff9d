"""all_places, without, thinned, make, fewest and breath."""

import copy
import itertools
import random
import unittest

from dimhouse.maker import all_places, breath, fewest, make, thinned, without
from programs import (
    CELLS, KINDS, SHELVES, any_busy_program, any_cutting, any_program, any_straight_program, boxes_needed, cutting,
    faults_there, led, led_back_to, needing, piece_ways, plain_heads, program_of, spoils,
)

LOAD, STORE, END = ("load", "x", "c"), ("store", "c", "x"), ("end", 0)
TAKE, LAY = ("take", "x", "f", 0), ("lay", "f", 0, "x")
OTHER = ("copy", "y", 1)
TWIN_ROWS = (("load", "x", "d"), ("store", "d", "x"), ("take", "x", "g", 0), ("lay", "g", 0, "x"))


def kept_rows(code):
    return [row for row, boxes in code[1]]


def is_place(program, number):
    """Whether the row is one of all keeping-places."""
    row = program[2][number]
    stored = row[0] in ("store", "lay") and row[1] in plain_heads(program)
    return row[0] == "end" or stored or number in led_back_to(program[2])


def left_out(code, number):
    return (code[0], tuple(keep for keep in code[1] if keep[0] != number))


def thinned_slowly(program, code):
    """The thinned cutting, by the test's own looking for faults."""
    if faults_there(program, code):
        return code
    while True:
        ahead = code
        for number in kept_rows(ahead):
            if not faults_there(program, left_out(code, number)):
                code = left_out(code, number)
        if code == ahead:
            return code


class AllPlaces(unittest.TestCase):
    def check(self, rows, *kept):
        program = program_of(*rows)
        code = all_places(program)
        self.assertEqual(code, needing(program, *kept))
        self.assertEqual(faults_there(program, code), [])

    def test_ends(self):
        self.check((END,), 0)
        self.check((("end", "x"),), 0)
        self.check((("if", "a", 2), ("end", "x"), ("end", "y")), 1, 2)

    def test_every_kind_of_row(self):
        # The if and the go lead to row 0; the store and the lay are rows 3 and 5, the end is row 10.
        self.check(KINDS, 0, 3, 5, 10)

    def test_kinds_of_rows_that_are_none(self):
        self.check((OTHER, ("op", "x", "+", "a", "b"), LOAD, TAKE, ("hear", "x"), ("say", "x"), ("if", "x", 7), ("go", 8), END), 8)

    def test_loops(self):
        self.check((OTHER, ("if", "y", 1), END), 1, 2)
        self.check((OTHER, OTHER, ("if", "y", 1), END), 1, 3)
        self.check((OTHER, OTHER, ("go", 0)), 0)
        self.check((("go", 0),), 0)
        self.check((("if", 1, 2), OTHER, OTHER, ("if", "y", 2), ("if", "y", 0), END), 0, 2, 5)
        self.check((END, OTHER, ("go", 1)), 0, 1)

    def test_a_way_to_a_later_row_makes_none(self):
        self.check((("if", 1, 2), OTHER, ("go", 4), OTHER, END), 4)
        self.check((("if", 1, 1), OTHER, END), 2)

    def test_stores_and_lays(self):
        self.check((STORE, LAY, ("store", "m", 0), ("lay", "h", 0, 0), END), 0, 1, 2, 3, 4)
        self.check((*TWIN_ROWS, END), 4)
        self.check((*TWIN_ROWS, LOAD, STORE, TAKE, LAY, END), 5, 7, 8)

    def test_boxes_called_like_cells_and_shelves(self):
        self.check((("copy", "c", 1), ("op", "f", "+", "c", "f"), ("say", "f"), END), 3)

    def test_the_boxes_needed(self):
        self.assertEqual(all_places(program_of(LOAD, STORE, ("say", "a"), ("end", "b"))),
                         (("a", "b"), ((1, ("a", "b", "x")), (3, ("b",)))))
        self.assertEqual(all_places(program_of(("hear", "x"), ("if", "x", 0), ("end", "y"))),
                         (("y",), ((0, ("y",)), (2, ("y",)))))
        self.assertEqual(all_places(program_of(END)), ((), ((0, ()),)))

    def test_any_programs(self):
        chance = random.Random(51)
        for turn in range(600):
            program = (any_program if turn % 2 else any_busy_program)(chance, 14)
            self.check(program[2], *(number for number in range(len(program[2])) if is_place(program, number)))

    def test_greatest_programs(self):
        chance = random.Random(52)
        for turn in range(20):
            program = any_busy_program(chance, 60)
            self.check(program[2], *(number for number in range(len(program[2])) if is_place(program, number)))


class Without(unittest.TestCase):
    def test_a_row_that_it_has(self):
        code = (("a",), ((0, ("x",)), (2, ()), (5, ("x", "y"))))
        self.assertEqual(without(code, 0), (("a",), ((2, ()), (5, ("x", "y")))))
        self.assertEqual(without(code, 2), (("a",), ((0, ("x",)), (5, ("x", "y")))))
        self.assertEqual(without(code, 5), (("a",), ((0, ("x",)), (2, ()))))
        self.assertEqual(without(cutting(3), 3), ((), ()))
        self.assertEqual(code, (("a",), ((0, ("x",)), (2, ()), (5, ("x", "y")))))

    def test_a_row_that_it_has_not(self):
        code = (("a",), ((1, ("x",)), (2, ()), (5, ("x", "y"))))
        for row in (0, 3, 4, 6, 99):
            self.assertEqual(without(code, row), code)
        self.assertEqual(without(((), ()), 0), ((), ()))

    def test_tuples_are_told(self):
        code = without(cutting(1, 2), 1)
        self.assertEqual((type(code), type(code[0]), type(code[1])), (tuple, tuple, tuple))


class Thinned(unittest.TestCase):
    def check(self, rows, code, expected):
        program = program_of(*rows)
        self.assertEqual(thinned(program, code), expected)
        self.assertEqual(thinned_slowly(program, code), expected)

    def test_a_cutting_that_holds(self):
        rows = (LOAD, ("say", "x"), STORE, END)
        self.check(rows, ((), ((1, ("x",)), (2, ("x",)), (3, ()))), ((), ((2, ("x",)), (3, ()))))
        self.check((OTHER, OTHER, END), cutting(0, 1, 2), cutting(2))
        self.check((STORE, LAY, END), (("x",), ((0, ("x",)), (1, ("x",)), (2, ()))), (("x",), ((2, ()),)))

    def test_from_the_first_on(self):
        # Any one of the rows 1, 2 and 3 is enough; the last one is left.
        self.check((LOAD, ("say", 1), ("say", 2), STORE, END),
                   ((), ((1, ("x",)), (2, ("x",)), (3, ("x",)), (4, ()))), ((), ((3, ("x",)), (4, ()))))
        self.check((OTHER, OTHER, ("go", 0)), cutting(0, 1, 2), cutting(2))

    def test_ends_stay(self):
        rows = (("if", 1, 2), END, END, END)
        self.check(rows, cutting(0, 1, 2, 3), cutting(1, 2, 3))
        self.check((END,), cutting(0), cutting(0))

    def test_a_cutting_that_does_not_hold(self):
        for rows, code in (
            ((OTHER, OTHER, END), cutting(0, 1)), ((OTHER, ("if", 1, 1), OTHER, END), cutting(0, 2, 3)),
            ((LOAD, STORE, OTHER, END), cutting(2, 3, begin=("x",))), ((OTHER, ("say", "x"), END), cutting(0, 1, 2)),
        ):
            self.check(rows, code, code)

    def test_a_cutting_that_does_not_hold_but_would_with_one_keeping_place_less(self):
        code = (("x",), ((1, ("x",)), (3, ())))
        self.check((STORE, LOAD, STORE, END), code, code)
        code = ((), ((0, ()), (1, ()), (2, ("y",))))
        self.check((OTHER, ("say", "y"), ("end", "y")), code, code)

    def test_a_second_going_through_leaves_out_more(self):
        # With a keeping-place at the load the store of row 1 must be one; the load's is left out only behind it.
        rows = (("go", 3), ("store", "c", 1), END, ("store", "c", 0), LOAD, ("go", 1))
        self.check(rows, cutting(1, 2, 4), cutting(2))
        self.check(rows, cutting(1, 2), cutting(2))

    def test_a_third_going_through_leaves_out_more(self):
        # Likewise, with the store of row 1 as the one that is ahead of another load.
        rows = (("go", 6), ("store", "m", 1), END, ("store", "c", 1), ("load", "x", "m"), ("go", 1),
                ("store", "m", 0), ("store", "c", 0), LOAD, ("go", 3))
        program = program_of(*rows)
        code = cutting(1, 2, 3, 4, 8)
        self.check(rows, code, thinned_slowly(program, code))
        self.assertEqual(thinned(program, code), cutting(2))

    def test_boxes_more_stay(self):
        self.check((LOAD, STORE, END), (("q",), ((0, ("r",)), (1, ("x", "zz")), (2, ("a",)))),
                   (("q",), ((1, ("x", "zz")), (2, ("a",)))))

    def test_any_programs_and_cuttings(self):
        chance = random.Random(53)
        counts = [0, 0, 0]
        for turn in range(500):
            program = (any_program if turn % 3 == 0 else any_busy_program)(chance, 12)
            code = any_cutting(chance, program)
            thin = thinned(program, code)
            self.assertEqual(thin, thinned_slowly(program, code), (program, code))
            fails = faults_there(program, code) != []
            counts[0 if fails else 1 if thin == code else 2] += 1
            for number in [] if fails else kept_rows(thin):
                self.assertTrue(faults_there(program, left_out(thin, number)), (program, code))
        self.assertTrue(min(counts) > 50, counts)


class Make(unittest.TestCase):
    def check(self, program):
        code = make(program)
        self.assertEqual(faults_there(program, code), [], program)
        self.assertEqual(code, needing(program, *kept_rows(code)))
        for number in kept_rows(code):
            self.assertTrue(is_place(program, number), program)
            self.assertTrue(faults_there(program, left_out(code, number)), program)
        return code

    def test_some_programs(self):
        self.assertEqual(make(program_of(END)), cutting(0))
        self.assertEqual(make(program_of(("end", "x"))), (("x",), ((0, ("x",)),)))
        self.assertEqual(make(program_of(LOAD, STORE, END)), ((), ((1, ("x",)), (2, ()))))
        self.assertEqual(make(program_of(STORE, LOAD, STORE, ("end", "x"))), (("x",), ((3, ("x",)),)))
        self.assertEqual(make(program_of(*TWIN_ROWS, END)), cutting(4))
        self.assertEqual(make(program_of(("hear", "x"), ("if", "x", 0), END)), cutting(0, 2))
        self.assertEqual(make(program_of(("go", 0))), cutting(0))

    def test_one_keeping_place_is_enough_for_a_loop_that_stores(self):
        program = program_of(LOAD, ("op", "x", "+", "x", 1), STORE, ("if", "x", 0), ("end", "x"))
        self.assertEqual(make(program), ((), ((2, ("x",)), (4, ("x",)))))

    def test_any_programs(self):
        chance = random.Random(54)
        for turn in range(400):
            program = (any_program if turn % 2 else any_busy_program)(chance, 14)
            self.assertEqual(self.check(program), thinned_slowly(program, all_places(program)))

    def test_greatest_programs(self):
        chance = random.Random(55)
        for turn in range(6):
            self.check((any_program if turn % 2 else any_busy_program)(chance, 60))

    def test_at_the_bounds(self):
        cells = tuple((name, 0, False) for name in "abcdefgh")
        shelves = tuple((name, 8, False) for name in "ijkl")
        boxes = "mnopqrstuvwx"
        rows = []
        for number in range(19):
            rows.append(("load", boxes[number % 12], "abcdefgh"[number % 8]))
            rows.append(("take", boxes[number % 11], "ijkl"[number % 4], boxes[number % 12]))
            rows.append(("store", "abcdefgh"[number % 5], boxes[number % 7]))
        rows += [("lay", "i", "m", "n"), ("if", "x", 0), ("end", "w")]
        self.assertEqual(len(rows), 60)
        self.check((cells, shelves, tuple(rows)))


def stretch_is_good(program, first, last):
    """Whether neither the way from the first row to the one ahead of the last spoils anything, nor any beginning of it."""
    ways = [list(range(first, end)) for end in range(first + 1, last + 1)]
    return not any(spoils(program, name, way) for way in ways for name in plain_heads(program))


def slow_label(program, row):
    """The label of the row, by trying all rows between, fewest first."""
    if row == 0:
        return 0
    for count in range(1, row + 1):
        for between in itertools.combinations(range(1, row), count - 1):
            stops = (0, *between, row)
            if all(stretch_is_good(program, *pair) for pair in zip(stops, stops[1:])):
                return count


class Fewest(unittest.TestCase):
    def check(self, program):
        """What is told, which is true of the program."""
        told = fewest(program)
        self.assertEqual((type(told), len(told)), (tuple, 2))
        rows, labels = told
        self.assertEqual((type(rows), type(labels), len(labels)), (list, list, len(program[2])))
        self.assertEqual(labels, [slow_label(program, row) for row in range(len(labels))], program)
        self.assertEqual(rows[-1], len(labels) - 1)
        if len(labels) > 1:
            self.assertEqual(len(rows), labels[-1])
            for first, last in zip([0] + rows, rows):
                self.assertTrue(first < last and stretch_is_good(program, first, last), (program, rows))
        self.assertEqual(faults_there(program, needing(program, *rows)), [], program)
        return told

    def check_rows(self, rows, expected, labels):
        self.assertEqual(self.check(program_of(*rows)), (expected, labels))

    def test_one_row(self):
        self.check_rows((END,), [0], [0])
        self.check_rows((("end", "x"),), [0], [0])

    def test_one_keeping_place(self):
        self.check_rows((OTHER, END), [1], [0, 1])
        self.check_rows((OTHER, LOAD, ("hear", "y"), END), [3], [0, 1, 1, 1])
        self.check_rows((STORE, LOAD, STORE, END), [3], [0, 1, 1, 1])
        self.check_rows((LAY, LAY, TAKE, END), [3], [0, 1, 1, 1])
        self.check_rows((*TWIN_ROWS, END), [4], [0, 1, 1, 1, 1])

    def test_two_keeping_places(self):
        self.check_rows((LOAD, STORE, END), [1, 2], [0, 1, 2])
        self.check_rows((TAKE, LAY, END), [1, 2], [0, 1, 2])
        self.check_rows((LAY, TAKE, LAY, END), [2, 3], [0, 1, 1, 2])
        self.assertEqual(self.check(program_of(OTHER, LOAD, TAKE, OTHER, LAY, STORE, END))[1], [0, 1, 1, 1, 1, 2, 2])

    def test_more_keeping_places(self):
        self.check_rows((TAKE, LAY, TAKE, LAY, END), [1, 3, 4], [0, 1, 2, 2, 3])
        self.assertEqual(self.check(program_of(*(TAKE, LAY) * 4, END))[1], [0, 1, 2, 2, 3, 3, 4, 4, 5])
        self.assertEqual(self.check(program_of(*(TAKE, LAY, *TWIN_ROWS) * 2, END))[1][-1], 3)

    def test_a_later_stop_is_not_always_better(self):
        # From row 0 one may go as far as row 3, but behind row 1 the load of row 4 is no longer the first.
        self.check_rows((TAKE, STORE, LOAD, LAY, LOAD, STORE, END), [1, 6], [0, 1, 1, 1, 2, 2, 2])
        self.check_rows((LOAD, STORE, LOAD, STORE, END), [1, 4], [0, 1, 2, 2, 2])

    def test_any_programs(self):
        chance = random.Random(56)
        found = set()
        for turn in range(300):
            found.add(self.check(any_straight_program(chance, 11))[1][-1])
        self.assertTrue({0, 1, 2, 3} <= found, found)

    def test_none_that_holds_has_fewer(self):
        chance = random.Random(57)
        for turn in range(100):
            program = any_straight_program(chance, 9)
            count = len(program[2])
            rows, labels = fewest(program)
            for kept in itertools.combinations(range(count), len(rows) - 1):
                self.assertTrue(faults_there(program, needing(program, *kept)), program)
            self.assertGreaterEqual(len(make(program)[1]), len(rows))

    def test_greatest_programs(self):
        rows = (LOAD, TAKE, LAY, STORE) * 14 + (OTHER, OTHER, OTHER, END)
        told = fewest(program_of(*rows))
        self.assertEqual(len(told[0]), told[1][-1])
        self.assertEqual(faults_there(program_of(*rows), needing(program_of(*rows), *told[0])), [])

    def test_the_lists_are_the_askers_own(self):
        program = program_of(LOAD, STORE, END)
        first = fewest(program)
        first[0].append(7)
        first[1].clear()
        self.assertEqual(fewest(program), ([1, 2], [0, 1, 2]))


def longest(program, code):
    """The most rows of a piece's way of which the last leads to a keeping-place's row, or is an end."""
    ends = [way for way in piece_ways(program, code) if program[2][way[-1]][0] == "end"
            or any(there in kept_rows(code) for there in led(way[-1], program[2][way[-1]]))]
    return max(len(way) for way in ends)


class Breath(unittest.TestCase):
    def check(self, program, code, expected):
        self.assertEqual(faults_there(program, code), [])
        self.assertEqual(breath(program, code), expected)

    def test_one_row(self):
        self.check(((), (), (END,)), cutting(0), 0 + 0 + 1 + 3)
        self.check(((), (), (("go", 0),)), cutting(0), 0 + 0 + 1 + 3)

    def test_no_twins(self):
        self.check(((("c", 1, False),), (("f", 8, False),), (OTHER, END)), cutting(1), 0 + 0 + 1 + 3)

    def test_twins(self):
        rows = (OTHER, END)
        self.check(((("c", 1, True),), (), rows), cutting(1), 2 + 0 + 1 + 3)
        self.check(((("c", 9, True), ("d", 7, False), ("e", 0, True)), (), rows), cutting(1), 4 + 0 + 1 + 3)
        self.check(((), (("f", 1, True),), rows), cutting(1), 2 + 0 + 1 + 3)
        self.check(((), (("f", 8, True), ("g", 7, False)), rows), cutting(1), 16 + 0 + 1 + 3)
        self.check(((("c", 9, True), ("d", 7, False)), (("f", 5, False), ("g", 2, True), ("h", 3, True)), rows), cutting(1),
                   2 * (1 + 2 + 3) + 0 + 1 + 3)
        self.check((CELLS, SHELVES, rows), cutting(1), 2 * (1 + 1) + 0 + 1 + 3)

    def test_boxes(self):
        rows = (OTHER, END)
        self.check(((), (), rows), ((), ((1, ("a", "b")),)), 2 + 1 + 3)
        self.check(((), (), rows), (("a", "b", "d"), ((1, ("a", "b")),)), 3 + 1 + 3)
        self.check(((), (), rows), (("a",), ((0, ("a", "b", "d", "e")), (1, ("a", "b")))), 4 + 1 + 3)
        self.check(((), (), (("end", "x"),)), (("x",), ((0, ("x",)),)), 1 + 1 + 3)

    def test_the_longest_piece(self):
        rows = [OTHER] * 9 + [END]
        self.check(((), (), rows), cutting(9), 9 + 3)
        self.check(((), (), rows), cutting(0, 9), 9 + 3)
        self.check(((), (), rows), cutting(4, 9), 5 + 3)
        self.check(((), (), rows), cutting(6, 9), 6 + 3)
        self.check(((), (), rows), cutting(*range(10)), 1 + 3)

    def test_a_piece_at_row_0(self):
        self.check(((), (), (OTHER, OTHER, ("go", 0))), cutting(0), 3 + 3)
        self.check(((), (), (OTHER, OTHER, ("go", 0))), cutting(1), 3 + 3)
        self.check(((), (), (OTHER, OTHER, OTHER, ("go", 2))), cutting(3), 3 + 3)
        self.check(((), (), (OTHER, OTHER, OTHER, ("go", 2))), cutting(2), 2 + 3)

    def test_the_longer_of_two_ways(self):
        rows = (("if", 1, 4), OTHER, OTHER, OTHER, END)
        self.check(((), (), rows), cutting(4), 4 + 3)
        self.check(((), (), rows), cutting(2, 4), 2 + 3)
        self.check(((), (), rows), cutting(1, 4), 3 + 3)
        self.check(((), (), (("if", 1, 2), END, OTHER, OTHER, END)), cutting(1, 4), 3 + 3)

    def test_rows_that_no_piece_comes_to(self):
        self.check(((), (), (END, OTHER, OTHER, OTHER, END)), cutting(0, 4), 1 + 3)
        self.check(((), (), (END, OTHER, OTHER, OTHER, END)), cutting(0, 2, 4), 2 + 3)
        self.check(((), (), (("go", 5), OTHER, OTHER, OTHER, ("go", 5), END)), cutting(1, 5), 4 + 3)

    def test_a_piece_that_leads_back_row_by_row(self):
        rows = [("go", 59), END] + [("go", number - 1) for number in range(2, 60)]
        self.check(((), (), rows), cutting(1), 59 + 3)
        self.check(((), (), rows), cutting(1, 30), 30 + 3)

    def test_any_programs(self):
        chance = random.Random(58)
        held = 0
        for turn in range(1500):
            program = (any_program if turn % 3 == 0 else any_busy_program)(chance, 14)
            code = any_cutting(chance, program)
            if faults_there(program, code):
                continue
            held += 1
            places = sum(twin for name, start, twin in program[0]) + sum(size for name, size, twin in program[1] if twin)
            boxes = max(len(some) for some in [code[0]] + [some for row, some in code[1]])
            self.assertEqual(breath(program, code), 2 * places + boxes + longest(program, code) + 3, (program, code))
        self.assertGreater(held, 300)


class Same(unittest.TestCase):
    def test_nothing_handed_in_is_changed_and_equal_questions_get_equal_answers(self):
        chance = random.Random(59)
        for turn in range(60):
            program = any_busy_program(chance, 10)
            code = any_cutting(chance, program)
            straight = any_straight_program(chance, 10)
            twins = copy.deepcopy((program, code, straight))
            row = chance.randrange(len(program[2]))

            def answers(some, cut, other):
                made = make(some)
                return [all_places(some), made, without(cut, row), thinned(some, cut), fewest(other), breath(some, made)]

            first = answers(program, code, straight)
            self.assertEqual(answers(program, code, straight), first)
            self.assertEqual(answers(*twins), first)
            self.assertEqual((program, code, straight), twins)

    def test_kinds_of_what_is_told(self):
        program = program_of(LOAD, STORE, END)
        for code in (all_places(program), make(program), thinned(program, cutting(1, 2))):
            self.assertEqual((type(code), type(code[0]), type(code[1])), (tuple, tuple, tuple))
            for row, boxes in code[1]:
                self.assertEqual((type(row), type(boxes)), (int, tuple))
        self.assertIs(type(breath(program, make(program))), int)


if __name__ == "__main__":
    unittest.main()
