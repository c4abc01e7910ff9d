"""fault and holds."""

import copy
import random
import unittest

from dimhouse.faults import fault, holds
from programs import (
    BOXES, any_busy_program, any_cutting, any_program, cutting, faults_there, is_piece_way, is_way, led, needing, program_of,
    spoils, told,
)

LOAD, STORE, END = ("load", "x", "c"), ("store", "c", "x"), ("end", 0)
TAKE, LAY = ("take", "x", "f", 0), ("lay", "f", 0, "x")
OTHER = ("copy", "y", 1)


def is_end_fault(program, code, found):
    kind, row = found
    return program[2][row][0] == "end" and row not in [kept for kept, boxes in code[1]]


def is_ring_fault(program, code, found):
    kind, rows = found
    kept = [row for row, boxes in code[1]]
    unlike = len(set(rows)) == len(rows) and not any(row in kept for row in rows)
    return unlike and is_way(program, rows) and rows[0] in led(rows[-1], program[2][rows[-1]])


def is_spoil_fault(program, code, found):
    kind, name, rows = found
    return is_piece_way(program, code, rows) and spoils(program, name, rows)


def is_lost_fault(program, code, found):
    kind, box, rows, begin = found
    way = [told(program[2][row]) for row in rows]
    lacks = rows[0] == 0 and box not in code[0] if begin else box not in dict(code[1]).get(rows[0], [box])
    read = box in way[-1][0] and not any(is_set == box for atoms, is_set in way[:-1])
    return type(begin) is bool and lacks and is_way(program, rows) and read


TRUE_OF = {"end": is_end_fault, "ring": is_ring_fault, "spoil": is_spoil_fault, "lost": is_lost_fault}


class Case(unittest.TestCase):
    def check_found(self, program, code):
        """What is told, which is true, of the first kind that there is, and what holds says, too."""
        found = fault(program, code)
        kinds = faults_there(program, code)
        self.assertIs(holds(program, code), not kinds, (program, code))
        if not kinds:
            self.assertIsNone(found, (program, code))
            return None
        self.assertIs(type(found), tuple)
        self.assertEqual(found[0], kinds[0], (program, code))
        self.assertTrue(TRUE_OF[found[0]](program, code, found), (program, code, found))
        return found

    def check(self, rows, code, expected):
        self.assertEqual(self.check_found(program_of(*rows), code), expected)


class Holds(Case):
    def test_a_cutting_that_holds(self):
        self.check((END,), cutting(0), None)
        self.check((LOAD, STORE, END), ((), ((1, ("x",)), (2, ()))), None)
        self.check((("go", 0),), cutting(0), None)
        self.check((("if", 1, 0), END), cutting(0, 1), None)
        self.check((TAKE, LAY, ("end", "a")), (("a",), ((1, ("a", "x")), (2, ("a",)))), None)

    def test_a_truth_is_told(self):
        self.assertIs(holds(program_of(END), cutting(0)), True)
        self.assertIs(holds(program_of(END), cutting()), False)

    def test_strange_boxes_more(self):
        self.check((LOAD, STORE, END), (("q", "r"), ((1, ("c", "x", "zzzzzz")), (2, ("a", "end")))), None)
        self.check((("end", "x"),), (("a", "x"), ((0, ("x", "y")),)), None)

    def test_a_cutting_that_holds_holds_with_boxes_more(self):
        chance = random.Random(40)
        for turn in range(300):
            program = any_busy_program(chance)
            code = any_cutting(chance, program)
            if faults_there(program, code):
                continue
            row = chance.randrange(len(program[2]))
            name = chance.choice(BOXES + ("zz",))
            more = tuple((at, tuple(sorted({*boxes, name})) if at >= row else boxes) for at, boxes in code[1])
            self.check_found(program, (tuple(sorted({*code[0], name})), more))
            self.assertTrue(holds(program, (code[0], more)))

    def test_not_always_with_a_keeping_place_more(self):
        rows = (STORE, LOAD, STORE, END)
        self.check(rows, needing(program_of(*rows), 3), None)
        self.check(rows, needing(program_of(*rows), 1, 3), ("spoil", "c", [1, 2]))


class Ends(Case):
    def test_an_end_that_is_no_keeping_places(self):
        self.check((END,), cutting(), ("end", 0))
        self.check((OTHER, END), cutting(), ("end", 1))
        self.check((OTHER, END), cutting(0), ("end", 1))
        self.check((("if", 0, 2), END, END), cutting(1), ("end", 2))
        self.check((("if", 0, 2), END, END), cutting(2), ("end", 1))

    def test_an_end_that_no_way_comes_to(self):
        self.check((("go", 0), END), cutting(0), ("end", 1))
        self.check((("go", 0), END), cutting(0, 1), None)
        self.check((END, END), cutting(0), ("end", 1))

    def test_which_of_several_is_free(self):
        found = self.check_found(program_of(("if", 0, 2), END, END), cutting())
        self.assertIn(found, (("end", 1), ("end", 2)))


class Rings(Case):
    def test_a_ring_of_one_row(self):
        self.check((("go", 0),), cutting(), ("ring", [0]))
        self.check((OTHER, ("if", "y", 1), END), cutting(2), ("ring", [1]))
        self.check((OTHER, ("if", "y", 1), END), ((), ((1, ("y",)), (2, ()))), None)

    def test_a_ring_of_some_rows(self):
        found = self.check_found(program_of(OTHER, OTHER, ("go", 0)), cutting())
        self.assertEqual(sorted(found[1]), [0, 1, 2])
        found = self.check_found(program_of(OTHER, OTHER, OTHER, ("if", 1, 1), END), cutting(4))
        self.assertEqual(sorted(found[1]), [1, 2, 3])
        found = self.check_found(program_of(OTHER, ("go", 3), ("go", 4), ("go", 2), ("go", 3)), cutting())
        self.assertEqual(sorted(found[1]), [2, 3, 4])

    def test_a_keeping_place_at_each_row_of_a_ring(self):
        for kept in range(1, 4):
            self.check((OTHER, OTHER, OTHER, ("if", 1, 1), END), cutting(kept, 4), None)
        self.assertEqual(self.check_found(program_of(OTHER, OTHER, OTHER, ("if", 1, 1), END), cutting(0, 4))[0], "ring")

    def test_a_ring_that_leads_into_another(self):
        rows = (("if", 1, 0), OTHER, ("if", 1, 1), END)
        self.assertIn(self.check_found(program_of(*rows), cutting(3))[1], ([0], [1, 2], [2, 1]))
        self.assertIn(self.check_found(program_of(*rows), cutting(0, 3))[1], ([1, 2], [2, 1]))
        self.check(rows, cutting(1, 3), ("ring", [0]))
        self.check(rows, cutting(0, 2, 3), None)

    def test_a_ring_that_nothing_leads_into(self):
        self.check((END, ("go", 1)), cutting(0), ("ring", [1]))
        found = self.check_found(program_of(END, OTHER, ("go", 1)), cutting(0))
        self.assertEqual(sorted(found[1]), [1, 2])
        self.check((END, OTHER, ("go", 1)), cutting(0, 2), None)

    def test_rows_from_which_all_ways_lead_to_keeping_places(self):
        self.check((OTHER, ("if", 1, 0), ("if", 1, 0), END), cutting(0, 3), None)
        self.check((("if", 1, 2), ("go", 0), ("go", 0)), cutting(0), None)

    def test_a_ring_of_many_rows(self):
        rows = [OTHER] * 59 + [("go", 0)]
        found = self.check_found(program_of(*rows), cutting())
        self.assertEqual(sorted(found[1]), list(range(60)))
        rows = [("go", 59)] + [("go", number) for number in range(59)]
        found = self.check_found(program_of(*rows), cutting())
        self.assertEqual(sorted(found[1]), list(range(60)))
        self.assertIsNone(self.check_found(program_of(*rows), cutting(17)))


class Spoils(Case):
    def test_a_cell(self):
        self.check((LOAD, STORE, END), cutting(2), ("spoil", "c", [0, 1]))
        self.check((OTHER, LOAD, STORE, END), ((), ((1, ()), (3, ()))), ("spoil", "c", [1, 2]))

    def test_a_shelf(self):
        self.check((TAKE, LAY, END), cutting(2), ("spoil", "f", [0, 1]))

    def test_the_last_of_many_names(self):
        self.check((("take", "x", "h", 0), ("lay", "h", 0, "x"), END), cutting(2), ("spoil", "h", [0, 1]))
        self.check((("load", "x", "m"), ("store", "m", "x"), END), cutting(2), ("spoil", "m", [0, 1]))

    def test_twins(self):
        self.check((("load", "x", "d"), ("store", "d", "x"), END), cutting(2), None)
        self.check((("take", "x", "g", 0), ("lay", "g", 0, "x"), END), cutting(2), None)

    def test_a_piece_among_rows_that_no_way_comes_to(self):
        self.check((END, LOAD, STORE, END), cutting(0, 1, 3), ("spoil", "c", [1, 2]))
        self.check((END, LOAD, STORE, END), cutting(0, 3), None)


class Lost(Case):
    def test_at_the_begin(self):
        self.check((("say", "x"), END), cutting(1), ("lost", "x", [0], True))
        self.check((OTHER, ("say", "x"), END), cutting(2, begin=("y",)), ("lost", "x", [0, 1], True))
        self.check((OTHER, ("say", "x"), END), cutting(2, begin=("x",)), None)

    def test_at_a_keeping_place(self):
        self.check((OTHER, ("say", "x"), END), (("x",), ((1, ("y",)), (2, ()))), ("lost", "x", [1], False))
        self.check((OTHER, ("end", "y")), cutting(1), ("lost", "y", [1], False))
        self.check((OTHER, ("end", "y")), ((), ((1, ("y",)),)), None)

    def test_through_another_keeping_place(self):
        rows = (OTHER, OTHER, ("say", "x"), END)
        self.check(rows, ((), ((1, ("x",)), (2, ("x",)), (3, ()))), ("lost", "x", [0, 1, 2], True))
        self.check(rows, (("x",), ((1, ()), (2, ("x",)), (3, ()))), ("lost", "x", [1, 2], False))
        self.check(rows, (("x",), ((1, ("x",)), (2, ("x",)), (3, ()))), None)

    def test_a_box_set_ahead(self):
        self.check((("hear", "x"), ("say", "x"), END), cutting(2), None)
        self.check((("hear", "x"), ("say", "x"), END), cutting(1, 2), ("lost", "x", [1], False))
        self.check((("op", "x", "+", "x", 1), END), cutting(1), ("lost", "x", [0], True))
        self.check((("if", 0, 2), ("hear", "x"), ("say", "x"), END), cutting(3), ("lost", "x", [0, 2], True))
        self.check((("if", 0, 2), ("hear", "x"), ("say", "x"), END), cutting(3, begin=("x",)), None)

    def test_by_a_loop(self):
        rows = (("hear", "x"), ("say", "a"), ("if", "x", 0), ("end", 0))
        self.check(rows, (("a",), ((0, ()), (3, ()))), ("lost", "a", [0, 1], False))
        self.check(rows, (("a",), ((2, ("x",)), (3, ()))), ("lost", "a", [2, 0, 1], False))
        self.check(rows, (("a",), ((2, ("a", "x")), (3, ()))), None)

    def test_row_0_as_a_keeping_place(self):
        rows = (("say", "x"), END)
        self.check(rows, (("x",), ((0, ()), (1, ()))), ("lost", "x", [0], False))
        self.check(rows, ((), ((0, ("x",)), (1, ()))), ("lost", "x", [0], True))
        self.check(rows, (("x",), ((0, ("x",)), (1, ()))), None)
        self.assertIn(self.check_found(program_of(*rows), cutting(0, 1)), (("lost", "x", [0], True), ("lost", "x", [0], False)))

    def test_strange_boxes_are_no_others(self):
        self.check((("end", "x"),), (("xx", "y"), ((0, ("x",)),)), ("lost", "x", [0], True))
        self.check((("end", "x"),), (("x",), ((0, ("a", "xx")),)), ("lost", "x", [0], False))

    def test_among_rows_that_no_way_comes_to(self):
        self.check((END, ("say", "x"), END), cutting(0, 2), None)
        self.check((END, ("say", "x"), END), cutting(0, 1, 2), ("lost", "x", [1], False))


class Several(Case):
    def test_the_first_kind_is_told(self):
        ring, spoil, lost = ("if", "a", 0), (LOAD, STORE), ("say", "b")
        self.check((*spoil, lost, END), cutting(begin=("b",)), ("end", 3))
        self.check((lost, END), cutting(), ("end", 1))
        self.check((ring, END), cutting(), ("end", 1))
        self.check((ring, *spoil, lost, END), cutting(), ("end", 4))
        self.check((ring, *spoil, END), cutting(3, begin=("a",)), ("ring", [0]))
        self.check((ring, lost, END), cutting(2), ("ring", [0]))
        self.check((ring, *spoil, lost, END), cutting(4), ("ring", [0]))
        self.check((*spoil, lost, END), cutting(3), ("spoil", "c", [0, 1]))
        self.check((*spoil, lost, END), (("b",), ((1, ("x",)), (3, ()))), ("lost", "b", [1, 2], False))

    def test_ahead_of_others_also_where_no_way_comes_to_it(self):
        self.check((LOAD, STORE, END, END), cutting(2), ("end", 3))
        self.check((LOAD, STORE, END, ("go", 3)), cutting(2), ("ring", [3]))
        self.check((("say", "x"), END, LOAD, STORE, END), cutting(1, 2, 4), ("spoil", "c", [2, 3]))


class Any(Case):
    def test_any_programs_and_cuttings(self):
        chance = random.Random(41)
        counts = {}
        for turn in range(3000):
            program = (any_program if turn % 3 == 0 else any_busy_program)(chance, 14)
            found = self.check_found(program, any_cutting(chance, program))
            kind = found if found is None else found[0]
            counts[kind] = counts.get(kind, 0) + 1
        self.assertTrue(len(counts) == 5 and min(counts.values()) > 100, counts)

    def test_greatest_programs(self):
        chance = random.Random(42)
        for turn in range(60):
            program = (any_program if turn % 3 == 0 else any_busy_program)(chance, 60)
            self.check_found(program, any_cutting(chance, program))

    def test_nothing_handed_in_is_changed_and_equal_questions_get_equal_answers(self):
        chance = random.Random(43)
        for turn in range(300):
            program = any_busy_program(chance, 10)
            code = any_cutting(chance, program)
            twin = copy.deepcopy((program, code))
            first = fault(program, code)
            expected = copy.deepcopy(first)
            for part in first or ():
                if isinstance(part, list):
                    part.append(0)
            self.assertEqual(fault(program, code), expected)
            self.assertEqual(fault(*twin), expected)
            self.assertEqual(holds(program, code), holds(*twin))
            self.assertEqual((program, code), twin)


if __name__ == "__main__":
    unittest.main()
