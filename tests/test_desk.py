"""cut and play, the desk."""

import random
import unittest

from dimhouse.desk import cut, play
from dimhouse.errors import BadLine, DimError, Falls, NoLabel, Twice, Unknown
from dimhouse.house import House, drive
from dimhouse.maker import breath, make
from dimhouse.plain import Plain
from dimhouse.texts import write
from dimhouse.words import WIDE
from programs import any_busy_program, any_letters, any_looping_program, any_program, any_twins

LOOP = "twin c 5\nat again\nload x c\nx = x - 1\nsay x\nstore c x\nif x again\nend x"
# Behind coming up it does row 0, writes down by a box, and ends: 6 steps.
SHORT = "x = 4\nend x"


def lines(*rows):
    return "\n".join(rows)


class Cut(unittest.TestCase):
    def test_one_row(self):
        self.assertEqual(cut("end 0"), lines("begin", "keep 0", "breath 4"))
        self.assertEqual(cut("end x"), lines("begin x", "keep 0 x", "breath 5"))

    def test_without_boxes(self):
        self.assertEqual(cut("say 1\nat l\nsay 2\ngo l"), lines("begin", "keep 1", "breath 5"))

    def test_boxes_are_sorted(self):
        self.assertEqual(cut("say b\nsay a\nsay zz\nend b"), lines("begin a b zz", "keep 3 b", "breath 9"))
        self.assertEqual(cut("say 1\nat l\nx = b + ab\nsay a\nif x l\nend ba"),
                         lines("begin a ab b ba", "keep 1 a ab b ba", "keep 4 ba", "breath 10"))

    def test_cells_and_shelves(self):
        self.assertEqual(cut(LOOP), lines("begin", "keep 0", "keep 5 x", "breath 11"))
        self.assertEqual(cut("cell c 5\nload x c\nstore c x\nend y"), lines("begin y", "keep 1 x y", "keep 2 y", "breath 6"))
        self.assertEqual(cut("shelf f 8\ntake x f 1\nlay f 1 x\nend 0"), lines("begin", "keep 1 x", "keep 2", "breath 5"))
        self.assertEqual(cut("twins f 8\ntake x f 1\nlay f 1 x\nend 0"), lines("begin", "keep 2", "breath 21"))

    def test_no_row_ends_with_a_blank(self):
        self.assertEqual([line for line in cut(LOOP).split("\n") if line != line.strip() or "  " in line], [])

    def test_any_programs(self):
        chance = random.Random(91)
        for turn in range(150):
            program = any_twins(chance, (any_program, any_busy_program, any_looping_program)[turn % 3](chance))
            code = make(program)
            expected = [["begin", *code[0]]] + [["keep", str(row), *boxes] for row, boxes in code[1]]
            expected.append(["breath", str(breath(program, code))])
            self.assertEqual(cut(write(program)), "\n".join(" ".join(words) for words in expected))


class Play(unittest.TestCase):
    def test_one_row(self):
        self.assertEqual(play("end 0", [], []), lines("answer 0", "sent"))
        self.assertEqual(play("end x", [], [(0, 9)]), lines("answer 0", "sent"))
        self.assertEqual(play(f"end {WIDE - 1}", [], []), lines(f"answer {WIDE - 1}", "sent"))

    def test_cells_and_shelves_in_the_programs_order(self):
        text = "shelf h 1\ntwin b 3\ntwins g 3\ncell a 4\nlay g 1 8\nstore b 9\nend 2"
        self.assertEqual(play(text, [], []), lines("answer 2", "sent", "cell b 9", "cell a 4", "shelf h 0", "shelf g 0 8 0"))

    def test_letters(self):
        text = "at l\nhear x\nsay x\ny = y + x\nif x l\nend y"
        self.assertEqual(play(text, [3, 4], []), lines("answer 7", "sent 3 4 0"))
        self.assertEqual(play(text, [], []), lines("answer 0", "sent 0"))
        self.assertEqual(play(text, [WIDE - 1, 1], []), lines("answer 0", f"sent {WIDE - 1} 1 0"))

    def test_failings(self):
        for first in range(60):
            self.assertEqual(play(LOOP, [], [(first, 3), (first, 4), (1, 2)]), lines("answer 0", "sent 4 3 2 1 0", "cell c 0"))

    def test_most_told(self):
        for most in range(9):
            self.assertEqual(play(SHORT, [], [], most), lines("answer 4" if most >= 6 else "none", "sent"))
        self.assertEqual(play(SHORT, [], [], most=5), lines("none", "sent"))
        self.assertEqual(play(text=SHORT, letters=[], failings=[], most=6), lines("answer 4", "sent"))

    def test_most_with_failings(self):
        self.assertEqual(play(SHORT, [], [(3, 9)], 8), lines("none", "sent"))
        self.assertEqual(play(SHORT, [], [(3, 9)], 9), lines("answer 4", "sent"))
        self.assertEqual(play(SHORT, [], [(7, 9)], 6), lines("answer 4", "sent"))

    def test_where_it_does_not_rest(self):
        text = "cell d 1\ntwin c 5\ntwins f 2\nstore c 6\nstore d 7\nsay 3\nat l\ngo l"
        self.assertEqual(play(text, [], []), lines("none", "sent 3", "cell d 7", "cell c 6", "shelf f 0 0"))
        # Up to here the log is not written down; d, which is no twin, is at home at once.
        self.assertEqual(play(text, [], [], 3), lines("none", "sent", "cell d 7", "cell c 5", "shelf f 0 0"))
        self.assertEqual(play(text, [], [], 0), lines("none", "sent", "cell d 1", "cell c 5", "shelf f 0 0"))

    def test_most_left_out(self):
        # Coming up is one step, each time through is 51 rows and 2 steps of writing down: 1 + 18 * 53 + 45 steps.
        text = "at l\n" + 50 * "say 1\n" + "go l"
        for found in (play(text, [], []), play(text, [], [], 1000)):
            self.assertEqual(found, lines("none", "sent" + (18 * 50 + 45) * " 1"))

    def test_any_programs(self):
        chance = random.Random(92)
        rests = 0
        for turn in range(150):
            program = any_twins(chance, (any_program, any_busy_program, any_looping_program)[turn % 3](chance))
            letters = any_letters(chance)
            failings = [(chance.choice((0, 1, 5, 20)), chance.randrange(WIDE)) for failing in range(chance.randint(0, 6))]
            most = chance.choice((0, 10, 40, 300, 1000))
            house = House(program, make(program), letters)
            drive(house, failings, most)
            expected = [["answer", house.answer()] if house.rests() else ["none"], ["sent", *house.letters()]]
            expected += [["cell", name, house.cell(name)] for name, start, twin in program[0]]
            expected += [["shelf", name, *house.shelf(name)] for name, size, twin in program[1]]
            found = play(write(program), letters, failings, most)
            self.assertEqual(found, "\n".join(" ".join(str(word) for word in words) for words in expected))
            if house.rests():
                rests += 1
                self.check_plain(program, letters, found)
        self.assertGreater(rests, 60)

    def check_plain(self, program, letters, found):
        """Checks that what was found tells what the plain run comes to."""
        run = Plain(program, letters)
        while not run.ended():
            run.step()
        self.assertEqual(found.split("\n")[0], f"answer {run.answer()}")
        self.assertEqual(found.split("\n")[1].split(" ")[1:], [str(letter) for letter in run.sent()])
        for name, start, twin in program[0]:
            self.assertIn(f"cell {name} {run.cell(name)}", found.split("\n"))


class Refused(unittest.TestCase):
    def check(self, text, kind, **fields):
        for asked in (lambda: cut(text), lambda: play(text, [1], [(2, 3)]), lambda: play(text, [], [], 0)):
            with self.assertRaises(DimError) as caught:
                asked()
            self.assertIs(type(caught.exception), kind)
            self.assertEqual({name: getattr(caught.exception, name) for name in fields}, fields)

    def test_bad_lines(self):
        self.check("", BadLine, at=0)
        self.check("x = 1\nend x y", BadLine, at=1)
        self.check("x = 1\ncell c 5\nend x", BadLine, at=1)
        self.check("end 0\n", BadLine, at=1)
        self.check("cell c 1099511627776\nend 0", BadLine, at=0)

    def test_twice(self):
        self.check("cell c 1\nshelf c 2\nend 0", Twice, word="c")
        self.check("at l\nat l\nend 0", Twice, word="l")

    def test_no_label(self):
        self.check("go l\nend 0", NoLabel, word="l")
        self.check("at m\nif x l\nend 0", NoLabel, word="l")

    def test_unknown(self):
        self.check("load x c\nend 0", Unknown, word="c", row=0)
        self.check("cell f 1\nx = 1\ntake x f 0\nend 0", Unknown, word="f", row=1)
        self.check("shelf c 1\nstore c 0\nend 0", Unknown, word="c", row=0)
        self.check("lay f 0 0\nend 0", Unknown, word="f", row=0)

    def test_falls(self):
        self.check("cell c 1", Falls, row=0)
        self.check("at l", Falls, row=0)
        self.check("x = 1\nsay x", Falls, row=1)
        self.check("go l\nend 0\nat l", Falls, row=0)
        self.check("end 0\nif 1 l\nend 0\nat l", Falls, row=1)

    def test_which_goes_first(self):
        self.check("load x c\ngo l\nbad", BadLine, at=2)
        self.check("cell c 1\ncell c 1\ngo l", Twice, word="c")
        self.check("load x c\ngo l", NoLabel, word="l")
        self.check("say 1\nload x c", Unknown, word="c", row=1)


class Same(unittest.TestCase):
    def test_the_lists_handed_in_stay(self):
        letters, failings = [3, 4], [(2, 9), (0, 8), (2000, 7)]
        text = "at l\nhear x\nsay x\nif x l\nend x"
        for most in (0, 3, 1000, 3000):
            play(text, letters, failings, most)
            self.assertEqual((letters, failings), ([3, 4], [(2, 9), (0, 8), (2000, 7)]))

    def test_equal_questions_get_equal_answers(self):
        self.assertEqual(cut(LOOP), cut(LOOP))
        for most in range(0, 100, 7):
            self.assertEqual(play(LOOP, [1], [(5, 2)], most), play(LOOP, [1], [(5, 2)], most))

    def test_texts_are_told(self):
        self.assertEqual((type(cut(LOOP)), type(play(LOOP, [], []))), (str, str))


if __name__ == "__main__":
    unittest.main()
