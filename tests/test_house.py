"""House, as long as its current does not fail."""

import unittest

from dimhouse.house import House
from dimhouse.words import WIDE
from programs import KINDS, cutting, program_of, rows_of, shown, stays, stepped

EMPTY = (0, 0, 0, 0, [], [])


class Case(unittest.TestCase):
    def check(self, house, *stands):
        """Checks where the house stands now and behind each step."""
        found = [house.stands()]
        for turn in stands[1:]:
            house.step()
            found.append(house.stands())
        self.assertEqual(found, list(stands))


class Walk(Case):
    program = rows_of("x = 3 / y = x + 4 / end y")
    code = ((), ((2, ("y",)),))

    def told(self, house):
        pages = (house.page(0), house.page(1))
        return house.stands(), house.count(), house.box("x"), house.box("y"), house.face(), pages, house.answer()

    def test_each_step(self):
        house = House(self.program, self.code, [])
        begun, kept = (2, 2, 0, 0, [], []), (2, 2, 0, 0, [("y", 7)], [])
        self.assertEqual(self.told(house), (None, 0, 0, 0, 0, (EMPTY, EMPTY), None))
        self.assertEqual(self.told(stepped(house)), (0, 0, 0, 0, 0, (EMPTY, EMPTY), None))
        self.assertEqual(self.told(stepped(house)), (1, 1, 3, 0, 0, (EMPTY, EMPTY), None))
        self.assertEqual(self.told(stepped(house)), (None, 0, 0, 0, 0, (EMPTY, EMPTY), None))
        self.assertEqual(self.told(stepped(house)), (None, 0, 0, 0, 0, (EMPTY, begun), None))
        self.assertEqual(self.told(stepped(house)), (None, 0, 0, 0, 0, (EMPTY, kept), None))
        self.assertEqual(self.told(stepped(house)), (2, 2, 3, 7, 1, (EMPTY, kept), None))
        self.assertFalse(house.rests())
        self.assertEqual(self.told(stepped(house)), (None, 2, 0, 0, 1, (EMPTY, kept), 7))
        self.assertTrue(house.rests())

    def test_a_step_and_a_failing_of_a_house_that_rests(self):
        house = stepped(House(self.program, self.code, []), 7)
        resting = shown(house, self.program)
        self.assertTrue(house.rests())
        for turn in range(3):
            house.step()
            self.assertEqual(shown(house, self.program), resting)
            house.fail(turn)
            self.assertEqual(shown(house, self.program), resting)

    def test_an_answer_of_0_is_one(self):
        program = rows_of("end 0")
        house = stepped(House(program, cutting(0), []), 2)
        self.assertEqual((house.rests(), house.answer(), house.stands()), (True, 0, None))
        house.fail(3)
        self.assertEqual(shown(stepped(house), program), shown(stepped(House(program, cutting(0), []), 2), program))

    def test_a_house_without_cells_shelves_and_letters(self):
        house = House(rows_of("go l / at l / end 5"), cutting(1), [])
        self.check(house, None, 0, None, None, 1, None, None)
        self.assertEqual((house.answer(), house.letters(), house.torn()), (5, [], False))

    def test_kinds_of_what_is_told(self):
        house = stepped(House(program_of(("say", 3), ("end", 0)), cutting(1), []), 2)
        kinds = [type(told) for told in (house.cell("c"), house.shelf("f"), house.letters(), house.count(), house.face(),
                                         house.page(0), house.page(0)[4], house.page(0)[5], house.box("x"))]
        self.assertEqual(kinds, [int, list, list, int, int, tuple, list, list, int])
        self.assertIs(house.torn(), False)
        self.assertIs(house.rests(), False)
        self.assertIs(house.answer(), None)
        self.assertIs(stepped(house, 4).rests(), True)

    def test_what_changes_tells_none(self):
        house = House(self.program, self.code, [])
        self.assertEqual([house.step(), house.step(), house.fail(3), house.step()], [None] * 4)
        self.assertEqual([house.step() for turn in range(9)] + [house.fail(3)], [None] * 10)


class Begin(Case):
    def test_what_stays(self):
        program = program_of(("end", "x"))
        house = House(program, (("a", "x"), ((0, ("x",)),)), [4])
        for turn in range(2):
            cells, shelves, face, page, other, rests, answer, letters, torn = stays(house, program)
            self.assertEqual(cells, {"c": 5, "d": 0, "m": WIDE - 1})
            self.assertEqual(shelves, {"f": [0] * 3, "g": [0], "h": [0] * 8})
            self.assertEqual((face, page, other), (0, (0, 0, 0, 0, [("a", 0), ("x", 0)], []), EMPTY))
            self.assertEqual((rests, answer, letters, torn), (False, None, [], False))
            house.step()

    def test_boxes_have_0(self):
        house = stepped(House(program_of(("end", "x")), (("a",), ((0, ("x",)),)), []))
        self.assertEqual([house.box(name) for name in ("a", "x", "zz", "end")], [0] * 4)

    def test_a_keeping_place_at_row_0_is_not_written_down_at_the_begin(self):
        house = House(rows_of("at l / x = x + 1 / y = x < 3 / if y l / end x"), (("x",), ((0, ("x",)), (3, ("x",)))), [])
        self.check(house, None, 0, 1, 2, None, None, None, 0, 1, 2, None, None, None, 0, 1, 2, None, None, None, 3, None)
        self.assertEqual((house.page(0), house.page(1)), ((0, 6, 0, 0, [("x", 2)], []), (3, 9, 0, 0, [("x", 3)], [])))
        self.assertEqual((house.answer(), house.face(), house.count()), (3, 1, 9))

    def test_a_row_that_leads_to_itself(self):
        house = House(rows_of("at l / go l"), cutting(0), [])
        self.check(house, None, 0, None, None, 0, None, None, 0)
        self.assertEqual((house.count(), house.face()), (2, 0))
        self.assertEqual((house.page(0), house.page(1)), ((0, 2, 0, 0, [], []), (0, 1, 0, 0, [], [])))


class Rows(Case):
    def last(self, text, letters=()):
        """The house of this program, without keeping-places, behind its last row but one."""
        program = rows_of(text)
        house = stepped(House(program, cutting(), list(letters)), 1)
        while house.stands() < len(program[2]) - 1:
            house.step()
        return house

    def test_copy_and_op(self):
        house = self.last("x = 7 / y = x / z = y + x / w = 3 - 5 / v = x < 8 / end 0")
        self.assertEqual([house.box(name) for name in "xyzwv"], [7, 7, 14, WIDE - 2, 1])
        self.assertEqual(self.last("x = x / y = x + y / end 0").box("y"), 0)

    def test_each_row_counts_one_more(self):
        house = stepped(House(program_of(*KINDS), cutting(10), []))
        found = []
        for turn in range(9):
            found.append((house.stands(), house.count()))
            house.step()
        self.assertEqual(found, [(row, row) for row in range(9)])

    def test_if_and_go(self):
        house = House(rows_of("if x a / x = 2 / if x a / end 1 / at a / go b / end 2 / at b / end 3"), cutting(3, 5, 6), [])
        self.check(house, None, 0, 1, 2, 4, None, None, 6, None)
        self.assertEqual(house.answer(), 3)
        house = House(rows_of("if 0 a / if 9 b / at a / end 1 / at b / end 2"), cutting(2, 3), [])
        self.check(house, None, 0, 1, None, None, 3, None)
        self.assertEqual(house.answer(), 2)

    def test_plain_cells_and_shelves_are_at_home_at_once(self):
        house = House(rows_of("cell c 5 / shelf f 3 / store c 8 / lay f 4 9 / load x c / take y f 7 / take z f 2 / end 0"),
                      cutting(5), [])
        self.assertEqual((stepped(house, 1).cell("c"), house.shelf("f")), (5, [0, 0, 0]))
        self.assertEqual((stepped(house, 1).cell("c"), house.shelf("f")), (8, [0, 0, 0]))
        self.assertEqual((stepped(house, 1).cell("c"), house.shelf("f")), (8, [0, 9, 0]))
        stepped(house, 2)
        self.assertEqual((house.stands(), house.box("x"), house.box("y")), (4, 8, 9))
        stepped(house, 3)
        self.assertEqual((house.stands(), house.box("z"), house.page(1)[5]), (5, 0, []))

    def test_places_are_rests_by_the_size(self):
        house = self.last(f"shelf f 8 / twins g 3 / lay f {WIDE - 1} 4 / lay g {WIDE - 1} 6 / take x f 7 / take y g 0 / end 0")
        self.assertEqual((house.shelf("f"), house.box("x"), house.box("y")), ([0] * 7 + [4], 4, 6))
        self.assertEqual(WIDE % 3, 1)

    def test_boxes_called_like_cells_and_shelves(self):
        house = self.last("twin c 5 / twins f 3 / c = 1 / f = 2 / store c f / lay f c f / load x c / take y f c / end 0")
        self.assertEqual([house.box(name) for name in "cfxy"], [1, 2, 2, 2])

    def test_say(self):
        house = House(rows_of("say 5 / x = 0 / say x / say 5 / end 0"), cutting(4), [])
        found = [house.letters()]
        for turn in range(5):
            found.append(stepped(house).letters())
        self.assertEqual(found, [[], [], [5], [5], [5, 0], [5, 0, 5]])
        self.assertEqual(stepped(house, 3).letters(), [5, 0, 5])
        self.assertEqual((house.rests(), house.torn(), house.page(1)), (True, False, (4, 4, 0, 3, [], [])))

    def test_hear(self):
        house = self.last("hear x / hear y / hear x / end 0", [8, 9, 7, 6])
        self.assertEqual((house.box("x"), house.box("y")), (7, 9))

    def test_hears_beyond_the_last_letter(self):
        house = House(rows_of("x = 4 / hear x / hear y / x = 3 / hear x / hear y / end x"), ((), ((5, ("x",)), (6, ()))), [8])
        stepped(house, 4)
        self.assertEqual((house.box("x"), house.box("y")), (8, 0))
        stepped(house, 2)
        self.assertEqual(stepped(house, 1).page(1), (5, 5, 3, 0, [], []))
        self.assertEqual((stepped(house, 2).stands(), house.box("x")), (5, 0))
        self.assertEqual(stepped(house, 2).page(0), (6, 6, 4, 0, [], []))


class Twins(Case):
    def test_writing_down_step_by_step(self):
        program = rows_of("twin c 5 / twins f 3 / hear y / say y / lay f 2 8 / store c 6 / x = 9 / end x")
        house = House(program, (("a",), ((5, ("a", "x", "y")),)), [4])
        stepped(house, 6)
        head, boxes = (5, 5, 1, 1), [("a", 0), ("x", 9), ("y", 4)]
        first = (0, 0, 0, 0, [("a", 0)], [])
        turns = [(("f", 2), 8), (("c", 0), 6)]
        written = [EMPTY, (*head, [], [])] + [(*head, boxes[:many], []) for many in (1, 2, 3)]
        written += [(*head, boxes, turns[:many]) for many in (1, 2)]
        for page in written:
            self.assertEqual((house.page(0), house.page(1), house.face()), (first, page, 0))
            self.assertEqual((house.cell("c"), house.shelf("f")), (5, [0, 0, 0]))
            self.assertEqual((house.stands(), house.count(), house.box("x"), house.rests()), (None, 0, 0, False))
            house.step()
        for cell, shelf, stands in ((5, [0, 0, 0], None), (5, [0, 0, 8], None), (6, [0, 0, 8], 5)):
            self.assertEqual((house.page(0), house.page(1), house.face()), (first, (*head, boxes, turns), 1))
            self.assertEqual((house.cell("c"), house.shelf("f"), house.stands(), house.count()), (cell, shelf, stands, 5))
            self.assertEqual(house.box("x"), 0 if stands is None else 9)
            house.step()
        self.assertEqual((house.answer(), house.letters(), house.page(1)), (9, [4], (*head, boxes, turns)))

    def test_writing_down_without_boxes_and_with_an_empty_log_is_two_steps(self):
        house = House(rows_of("twin c 5 / x = 1 / y = 2 / end y"), ((), ((1, ()), (2, ("y",)))), [])
        self.check(house, None, 0, None, None, 1, None, None, None, 2, None)
        self.assertEqual((house.page(0), house.page(1)), ((2, 2, 0, 0, [("y", 2)], []), (1, 1, 0, 0, [], [])))

    def test_the_log_is_empty_behind_writing_down(self):
        house = House(rows_of("twin c 5 / store c 6 / x = 1 / end x"), ((), ((1, ()), (2, ()))), [])
        self.check(house, None, 0, None, None, None, None, 1, None, None, 2, None)
        self.assertEqual((house.page(1)[5], house.page(0)[5]), ([(("c", 0), 6)], []))

    def test_a_place_written_twice(self):
        text = "twin c 5 / twins f 3 / lay f 1 4 / store c 6 / lay f 4 7 / store c 8 / lay f 0 3 / lay f 1 9 / end 0"
        house = House(rows_of(text), cutting(6), [])
        stepped(house, 7 + 4)
        self.assertEqual(house.page(1)[5], [(("f", 1), 9), (("c", 0), 8), (("f", 0), 3)])
        self.assertEqual((stepped(house, 4).cell("c"), house.shelf("f"), house.stands()), (8, [3, 9, 0], 6))

    def test_a_log_of_the_like_value_is_written_down_too(self):
        house = stepped(House(rows_of("twin c 5 / store c 5 / store c 7 / store c 5 / end 0"), cutting(3), []), 6)
        self.assertEqual(house.page(1)[5], [(("c", 0), 5)])

    def test_loads_ahead_of_and_behind_the_turning(self):
        text = "twin c 5 / load x c / store c 6 / load y c / store c 7 / load z c / load w c / store c 8 / load v c / end 0"
        house = House(rows_of(text), ((), ((5, ("x", "y", "z")), (8, ()))), [])
        stepped(house, 6)
        self.assertEqual((house.stands(), house.cell("c")), (None, 5))
        stepped(house, 7)
        self.assertEqual((house.stands(), house.cell("c")), (5, 7))
        self.assertEqual([house.box(name) for name in "xyz"], [5, 6, 7])
        stepped(house, 2)
        self.assertEqual((house.stands(), house.box("w"), house.cell("c")), (7, 7, 7))
        stepped(house)
        self.assertEqual((house.stands(), house.cell("c")), (None, 7))
        stepped(house, 4)
        self.assertEqual((house.stands(), house.cell("c"), house.box("v")), (8, 8, 8))

    def test_takes_ahead_of_and_behind_the_turning(self):
        text = "twins f 3 / take x f 1 / lay f 1 6 / take y f 4 / take z f 0 / take w f 1 / lay f 0 7 / take v f 1 / end 0"
        house = House(rows_of(text), ((), ((4, ("x", "y", "z")), (7, ("w",)))), [])
        stepped(house, 5)
        self.assertEqual((house.stands(), house.shelf("f")), (None, [0, 0, 0]))
        stepped(house, 7)
        self.assertEqual((house.stands(), house.shelf("f")), (4, [0, 6, 0]))
        self.assertEqual([house.box(name) for name in "xyz"], [0, 6, 0])
        stepped(house, 2)
        self.assertEqual((house.stands(), house.box("w"), house.shelf("f")), (6, 6, [0, 6, 0]))
        stepped(house, 6)
        self.assertEqual((house.stands(), house.box("v"), house.shelf("f")), (7, 6, [7, 6, 0]))

    def test_a_value_of_0_in_the_log(self):
        house = stepped(House(rows_of("twin c 5 / store c 0 / load x c / x = x + 1 / end x"), ((), ((3, ("x",)),)), []), 3)
        self.assertEqual((house.stands(), house.box("x"), house.cell("c")), (2, 0, 5))

    def test_pages_in_turn(self):
        house = House(rows_of("twin c 1 / at l / load x c / x = x + x / store c x / y = x < 9 / if y l / end x"),
                      ((), ((0, ()), (5, ("x",)))), [])
        faces = []
        while not house.rests():
            faces.append(house.face())
            house.step()
        # Coming up and the first piece end with a turning; each of the next ones has a home to put, too.
        self.assertEqual(faces, [0] * 9 + [1] * 9 + [0] * 9 + [1] * 10 + [0] * 2)
        self.assertEqual((house.page(0), house.page(1)), ((5, 20, 0, 0, [("x", 16)], [(("c", 0), 16)]),
                                                          (0, 15, 0, 0, [], [(("c", 0), 8)])))
        self.assertEqual((house.answer(), house.cell("c"), house.count()), (16, 16, 20))


class NotHolding(Case):
    def test_an_end_that_is_no_keeping_places_loses_the_log(self):
        program = rows_of("twin c 5 / twins f 2 / cell d 1 / store c 6 / lay f 1 7 / store d 8 / load x c / say x / end x")
        house = House(program, ((), ()), [])
        self.check(house, None, 0, 1, 2, 3, 4, 5, None, None)
        self.assertEqual((house.answer(), house.cell("c"), house.shelf("f"), house.cell("d")), (6, 5, [0, 0], 8))
        self.assertEqual((house.face(), house.page(0), house.page(1), house.letters()), (0, EMPTY, EMPTY, [6]))
        self.assertEqual((house.count(), house.box("x"), house.rests()), (0, 0, True))

    def test_a_ring_goes_on(self):
        house = House(rows_of("at l / x = x + 1 / go l"), ((), ()), [])
        stepped(house, 2999)
        self.assertEqual((house.stands(), house.count(), house.box("x"), house.rests()), (0, 2998, 1499, False))

    def test_boxes_that_are_not_kept_are_there_as_long_as_nothing_fails(self):
        house = House(rows_of("x = 3 / y = 4 / end x"), cutting(1, 2), [])
        self.assertEqual(stepped(house, 8).answer(), 3)


class Same(Case):
    program = rows_of("cell d 2 / twin c 5 / twins f 2 / hear x / store c x / lay f x x / store d x / say x / hear y / end y")
    code = (("z",), ((4, ("x",)), (6, ("x", "y"))))

    def test_letters_changed_behind_the_call(self):
        for ahead in range(30):
            letters = [3, 4]
            house = stepped(House(self.program, self.code, letters), ahead)
            letters[:] = [9, 9, 9]
            stepped(house, 30)
            self.assertEqual((house.answer(), house.letters(), house.cell("c"), house.shelf("f")), (4, [3], 3, [0, 3]))

    def test_nothing_handed_in_is_changed(self):
        letters = [3, 4]
        house = stepped(House(self.program, self.code, letters), 5)
        house.fail(7)
        stepped(house, 40)
        self.assertEqual((house.rests(), letters, self.code), (True, [3, 4], (("z",), ((4, ("x",)), (6, ("x", "y"))))))
        self.assertEqual(self.program[2][0], ("hear", "x"))

    def test_the_lists_are_the_askers_own(self):
        house = House(self.program, self.code, [3, 4])
        for turn in range(30):
            ahead = shown(house, self.program)
            for change in (list.clear, lambda told: told.append(7), lambda told: told.insert(0, (("c", 0), 7))):
                for told in (house.letters(), house.shelf("f"), *house.page(0)[4:], *house.page(1)[4:]):
                    change(told)
            self.assertEqual(shown(house, self.program), ahead)
            house.step()
        self.assertEqual((house.answer(), house.letters(), house.shelf("f")), (4, [3], [0, 3]))

    def test_what_was_told_is_not_changed_later(self):
        for ahead in range(25):
            house, like = (stepped(House(self.program, self.code, [3, 4]), ahead) for turn in range(2))
            told = shown(house, self.program)
            stepped(house, 5).fail(8)
            stepped(house, 20)
            self.assertEqual(told, shown(like, self.program))

    def test_asking_changes_nothing(self):
        asked, other = (House(self.program, self.code, [3, 4]) for turn in range(2))
        for turn in range(30):
            for again in range(2):
                shown(asked, self.program)
            asked.step()
            other.step()
            self.assertEqual(shown(asked, self.program), shown(other, self.program))

    def test_two_houses_in_turn(self):
        one, other = House(self.program, self.code, [3, 4]), House(self.program, self.code, [5, 6])
        for turn in range(30):
            one.step()
            if turn == 9:
                one.fail(2)
            other.step()
        self.assertEqual((one.answer(), one.letters(), one.cell("d"), one.shelf("f")), (4, [3], 3, [0, 3]))
        self.assertEqual((other.answer(), other.letters(), other.cell("d"), other.shelf("f")), (6, [5], 5, [0, 5]))
        third = House(self.program, self.code, [])
        self.assertEqual((third.cell("d"), third.shelf("f"), third.letters(), third.face()), (2, [0, 0], [], 0))


if __name__ == "__main__":
    unittest.main()
