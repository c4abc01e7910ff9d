"""Store."""

import copy
import random
import unittest

from dimhouse.store import Store
from dimhouse.words import WIDE
from programs import CELLS, SHELVES, program_of

PROGRAM = program_of(("load", "x", "c"), ("end", "x"))


def shown(store):
    """All that the store tells."""
    cells = {name: store.cell(name) for name, start, twin in CELLS}
    shelves = {name: store.shelf(name) for name, size, twin in SHELVES}
    return cells, shelves, store.face(), store.page(0), store.page(1), store.answer()


class Begin(unittest.TestCase):
    def test_at_the_begin(self):
        store = Store(PROGRAM, ("a", "b", "zz"))
        self.assertEqual(store.page(0), (0, 0, 0, 0, [("a", 0), ("b", 0), ("zz", 0)], []))
        self.assertEqual(store.page(1), (0, 0, 0, 0, [], []))
        self.assertEqual(store.face(), 0)
        self.assertIsNone(store.answer())
        for name, start, twin in CELLS:
            self.assertEqual((store.cell(name), store.get_home(name, 0)), (start, start))
        for name, size, twin in SHELVES:
            self.assertEqual(store.shelf(name), [0] * size)
            self.assertEqual([store.get_home(name, place) for place in range(size)], [0] * size)

    def test_without_boxes_cells_and_shelves(self):
        store = Store(((), (), (("end", 0),)), ())
        self.assertEqual([store.page(0), store.page(1)], [(0, 0, 0, 0, [], [])] * 2)
        self.assertEqual((store.face(), store.answer()), (0, None))

    def test_kinds_of_what_is_told(self):
        store = Store(PROGRAM, ("a",))
        for number in (0, 1):
            page = store.page(number)
            self.assertEqual([type(part) for part in page], [int, int, int, int, list, list])
            self.assertIs(type(page), tuple)
        self.assertIs(type(store.page(0)[4][0]), tuple)
        self.assertEqual((type(store.face()), type(store.cell("c")), type(store.shelf("f"))), (int, int, list))

    def test_what_changes_tells_none(self):
        store = Store(PROGRAM, ("a",))
        told = [store.put("c", 0, 1), store.put("f", 2, 1), store.begin_page(1, 2, 3, 4), store.keep_box("x", 1),
                store.keep_turn("d", 0, 1), store.turn(), store.turn(), store.give(0)]
        self.assertEqual(told, [None] * 8)


class Home(unittest.TestCase):
    def test_cells(self):
        store = Store(PROGRAM, ())
        store.put("c", 0, 7)
        store.put("d", 0, WIDE - 1)
        self.assertEqual([store.cell(name) for name in "cdm"], [7, WIDE - 1, WIDE - 1])
        self.assertEqual([store.get_home(name, 0) for name in "cdm"], [7, WIDE - 1, WIDE - 1])
        store.put("c", 0, 0)
        self.assertEqual((store.cell("c"), store.get_home("c", 0)), (0, 0))
        self.assertEqual([store.shelf(name) for name in "fgh"], [[0] * 3, [0], [0] * 8])

    def test_places_of_shelves(self):
        store = Store(PROGRAM, ())
        for place, value in ((0, 5), (2, 6), (0, 7), (1, 0)):
            store.put("f", place, value)
        store.put("g", 0, 9)
        store.put("h", 7, WIDE - 1)
        self.assertEqual([store.shelf(name) for name in "fgh"], [[7, 0, 6], [9], [0] * 7 + [WIDE - 1]])
        self.assertEqual([store.get_home("f", place) for place in range(3)], [7, 0, 6])
        self.assertEqual((store.get_home("h", 6), store.get_home("h", 7)), (0, WIDE - 1))
        self.assertEqual([store.cell(name) for name in "cdm"], [5, 0, WIDE - 1])

    def test_home_is_nothing_to_the_pages(self):
        store = Store(PROGRAM, ("c",))
        store.put("c", 0, 9)
        self.assertEqual((store.page(0), store.page(1)), ((0, 0, 0, 0, [("c", 0)], []), (0, 0, 0, 0, [], [])))


class Pages(unittest.TestCase):
    def test_writing_down_in_turn(self):
        store = Store(PROGRAM, ("a", "b"))
        first = (0, 0, 0, 0, [("a", 0), ("b", 0)], [])
        store.begin_page(1, 2, 3, 4)
        self.assertEqual((store.page(0), store.page(1)), (first, (1, 2, 3, 4, [], [])))
        store.keep_box("x", 5)
        self.assertEqual((store.page(0), store.page(1)), (first, (1, 2, 3, 4, [("x", 5)], [])))
        store.keep_box("a", 6)
        store.keep_turn("d", 0, 7)
        self.assertEqual(store.page(1), (1, 2, 3, 4, [("x", 5), ("a", 6)], [(("d", 0), 7)]))
        store.keep_turn("g", 2, 8)
        second = (1, 2, 3, 4, [("x", 5), ("a", 6)], [(("d", 0), 7), (("g", 2), 8)])
        self.assertEqual((store.page(0), store.page(1), store.face()), (first, second, 0))
        store.turn()
        self.assertEqual((store.page(0), store.page(1), store.face()), (first, second, 1))
        store.begin_page(9, 8, 7, 6)
        self.assertEqual((store.page(0), store.page(1)), ((9, 8, 7, 6, [], []), second))
        store.keep_turn("d", 0, 1)
        store.keep_box("b", 2)
        self.assertEqual((store.page(0), store.page(1)), ((9, 8, 7, 6, [("b", 2)], [(("d", 0), 1)]), second))
        store.turn()
        self.assertEqual((store.page(0)[0], store.page(1), store.face()), (9, second, 0))

    def test_the_same_box_and_the_same_place_twice(self):
        store = Store(PROGRAM, ())
        for value in (1, 2, 1):
            store.keep_box("x", value)
            store.keep_turn("g", 0, value)
        self.assertEqual(store.page(1), (0, 0, 0, 0, [("x", 1), ("x", 2), ("x", 1)],
                                         [(("g", 0), 1), (("g", 0), 2), (("g", 0), 1)]))

    def test_behind_what_the_page_has_where_it_is_not_begun_anew(self):
        store = Store(PROGRAM, ("a",))
        store.turn()
        store.keep_box("a", 3)
        store.keep_turn("c", 0, 4)
        self.assertEqual(store.page(0), (0, 0, 0, 0, [("a", 0), ("a", 3)], [(("c", 0), 4)]))
        self.assertEqual(store.page(1), (0, 0, 0, 0, [], []))

    def test_a_page_is_begun_anew_twice(self):
        store = Store(PROGRAM, ("a",))
        store.begin_page(1, 1, 1, 1)
        store.keep_box("x", 1)
        store.keep_turn("d", 0, 1)
        store.begin_page(2, 3, 4, 5)
        self.assertEqual(store.page(1), (2, 3, 4, 5, [], []))
        self.assertEqual(store.page(0), (0, 0, 0, 0, [("a", 0)], []))

    def test_the_face_turned_twice(self):
        store = Store(PROGRAM, ())
        faces = []
        for turn in range(5):
            faces.append(store.face())
            store.turn()
        self.assertEqual(faces, [0, 1, 0, 1, 0])

    def test_writing_down_leaves_home(self):
        store = Store(PROGRAM, ())
        store.begin_page(1, 0, 0, 0)
        store.keep_box("c", 9)
        store.keep_turn("c", 0, 9)
        store.keep_turn("f", 1, 9)
        store.turn()
        self.assertEqual((store.cell("c"), store.shelf("f")), (5, [0, 0, 0]))


class Answer(unittest.TestCase):
    def test_given(self):
        store = Store(PROGRAM, ())
        store.give(WIDE - 1)
        self.assertEqual(store.answer(), WIDE - 1)

    def test_the_answer_0(self):
        store = Store(PROGRAM, ())
        store.give(0)
        self.assertIsNotNone(store.answer())
        self.assertEqual(store.answer(), 0)

    def test_it_stays(self):
        store = Store(PROGRAM, ())
        store.give(3)
        store.turn()
        store.begin_page(0, 0, 0, 0)
        store.put("c", 0, 1)
        self.assertEqual(store.answer(), 3)

    def test_nothing_else_is_changed_by_it(self):
        store, other = Store(PROGRAM, ("a",)), Store(PROGRAM, ("a",))
        store.give(3)
        self.assertEqual(shown(store)[:-1], shown(other)[:-1])


class Own(unittest.TestCase):
    def test_lists_changed_by_the_asker(self):
        store = Store(PROGRAM, ("a",))
        store.keep_box("x", 1)
        store.keep_turn("d", 0, 2)
        store.put("f", 1, 3)
        expected = copy.deepcopy(shown(store))
        for number in (0, 1):
            for part in store.page(number)[4:]:
                part.append(("y", 9))
            for part in store.page(number)[4:]:
                part.clear()
        store.shelf("f").append(9)
        store.shelf("f")[0] = 9
        store.shelf("f").clear()
        self.assertEqual(shown(store), expected)
        store.keep_box("b", 4)
        self.assertEqual(store.page(1)[4], [("x", 1), ("b", 4)])

    def test_what_was_told_stays_as_it_was(self):
        store = Store(PROGRAM, ("a",))
        page, shelf = store.page(1), store.shelf("f")
        store.keep_box("x", 1)
        store.keep_turn("d", 0, 2)
        store.put("f", 1, 3)
        self.assertEqual((page, shelf), ((0, 0, 0, 0, [], []), [0, 0, 0]))

    def test_two_stores_in_turn(self):
        one, other = Store(PROGRAM, ("a",)), Store(PROGRAM, ("a",))
        first = shown(other)
        one.put("c", 0, 8)
        one.put("f", 0, 8)
        one.begin_page(1, 1, 1, 1)
        one.keep_box("x", 8)
        one.keep_turn("d", 0, 8)
        one.turn()
        one.give(8)
        self.assertEqual(shown(other), first)
        seen = shown(one)
        other.put("m", 0, 9)
        other.put("h", 7, 9)
        other.keep_box("x", 9)
        other.keep_turn("g", 0, 9)
        other.turn()
        other.turn()
        self.assertEqual(shown(one), seen)
        self.assertEqual(shown(Store(PROGRAM, ("a",))), first)

    def test_nothing_handed_in_is_changed(self):
        program, begin = copy.deepcopy(PROGRAM), ("a", "b")
        store = Store(program, begin)
        store.put("c", 0, 8)
        store.put("f", 0, 8)
        store.turn()
        store.begin_page(1, 1, 1, 1)
        store.keep_box("x", 8)
        self.assertEqual((program, begin), (PROGRAM, ("a", "b")))


class Any(unittest.TestCase):
    def test_any_steps(self):
        """Two stores at once, each held against a plain telling of what was done to it."""
        chance = random.Random(61)
        for turn in range(60):
            pairs = [self.begun(("a", "x")), self.begun(())]
            for step in range(60):
                store, told = chance.choice(pairs)
                self.do(chance, store, told)
                for each, expected in pairs:
                    self.assertEqual(shown(each), self.shown_of(expected))

    def begun(self, begin):
        cells = {name: start for name, start, twin in CELLS}
        shelves = {name: [0] * size for name, size, twin in SHELVES}
        pages = {0: ((0, 0, 0, 0), [(box, 0) for box in begin], []), 1: ((0, 0, 0, 0), [], [])}
        return Store(PROGRAM, begin), {"cells": cells, "shelves": shelves, "pages": pages, "face": 0, "answer": None}

    def shown_of(self, told):
        pages = [head + (boxes, turns) for head, boxes, turns in (told["pages"][0], told["pages"][1])]
        return told["cells"], told["shelves"], told["face"], *pages, told["answer"]

    def do(self, chance, store, told):
        """Does one step, to the store and to what is told of it."""
        value = chance.randrange(100)
        head, boxes, turns = told["pages"][1 - told["face"]]
        kind = chance.randrange(7)
        if kind == 0:
            name = chance.choice("cdm")
            store.put(name, 0, value)
            told["cells"][name] = value
        elif kind == 1:
            name, size, twin = chance.choice(SHELVES)
            place = chance.randrange(size)
            store.put(name, place, value)
            told["shelves"][name][place] = value
        elif kind == 2:
            store.begin_page(value, value + 1, value + 2, value + 3)
            told["pages"][1 - told["face"]] = ((value, value + 1, value + 2, value + 3), [], [])
        elif kind == 3:
            store.keep_box("x", value)
            boxes.append(("x", value))
        elif kind == 4:
            store.keep_turn("g", value % 3, value)
            turns.append((("g", value % 3), value))
        elif kind == 5:
            store.turn()
            told["face"] = 1 - told["face"]
        elif chance.random() < 0.2:
            store.give(value)
            told["answer"] = value


if __name__ == "__main__":
    unittest.main()
