"""The plain run."""

import random
import unittest

from dimhouse.plain import Plain
from dimhouse.texts import read
from dimhouse.words import WIDE
from programs import CELLS, KINDS, SHELVES, any_program, program_of

MOST = 3000


def run_of(*rows, letters=()):
    """A plain run of these rows, at its begin."""
    return Plain(program_of(*rows), list(letters))


def ended_run(*rows, letters=()):
    """A plain run of these rows, at its end."""
    run = run_of(*rows, letters=letters)
    for turn in range(MOST):
        run.step()
    return run


class Begin(unittest.TestCase):
    def test_at_the_begin(self):
        run = run_of(*KINDS, letters=[4])
        self.assertEqual((run.stands(), run.ended(), run.answer()), (0, False, None))
        self.assertEqual((run.heard(), run.count(), run.sent()), (0, 0, []))
        for name, start, twin in CELLS:
            self.assertEqual(run.cell(name), start)
        for name, size, twin in SHELVES:
            self.assertEqual(run.shelf(name), [0] * size)
        for name in ("x", "a", "c", "f", "none", "zzzzzz"):
            self.assertEqual(run.box(name), 0)

    def test_kinds_of_what_is_told(self):
        run = ended_run(("hear", "x"), ("say", "x"), ("op", "y", "<", 1, 2), ("lay", "f", 0, "y"), ("end", "y"), letters=[3])
        for number in (run.stands(), run.answer(), run.box("x"), run.box("y"), run.box("none"), run.cell("c"),
                       run.heard(), run.count(), run.sent()[0], run.shelf("f")[0]):
            self.assertIs(type(number), int)
        self.assertIs(run.ended(), True)
        self.assertIs(run_of(("end", 0)).ended(), False)
        self.assertEqual((type(run.sent()), type(run.shelf("f"))), (list, list))

    def test_a_step_tells_nothing(self):
        run = run_of(("say", 1), ("end", 0))
        self.assertEqual([run.step() for turn in range(4)], [None] * 4)


class Rows(unittest.TestCase):
    """Each kind of row by itself, and that it does nothing else."""

    def check(self, rows, boxes={}, cells={}, shelves={}, sent=(), heard=0, stands=None, letters=()):
        """Does all rows but the last, which is where it is to stand, unless another row is told."""
        run = run_of(*rows, letters=letters)
        for turn in range(len(rows) - 1):
            self.assertEqual(run.count(), turn)
            run.step()
        self.assertEqual(run.stands(), len(rows) - 1 if stands is None else stands)
        self.assertEqual((run.ended(), run.answer()), (False, None))
        for name in ("a", "b", "x", "y", "c", "d", "m", "f", "g", "h", "none"):
            self.assertEqual(run.box(name), boxes.get(name, 0), name)
        for name, start, twin in CELLS:
            self.assertEqual(run.cell(name), cells.get(name, start), name)
        for name, size, twin in SHELVES:
            self.assertEqual(run.shelf(name), shelves.get(name, [0] * size), name)
        self.assertEqual(run.sent(), list(sent))
        self.assertEqual((run.heard(), run.count()), (heard, len(rows) - 1))

    def test_copy(self):
        self.check((("copy", "x", 7), ("end", 0)), boxes={"x": 7})
        self.check((("copy", "x", WIDE - 1), ("copy", "y", "x"), ("end", 0)), boxes={"x": WIDE - 1, "y": WIDE - 1})
        self.check((("copy", "x", 7), ("copy", "x", "a"), ("end", 0)))
        self.check((("copy", "x", 7), ("copy", "x", "x"), ("end", 0)), boxes={"x": 7})

    def test_a_copy_is_no_bond(self):
        self.check((("copy", "x", 1), ("copy", "y", "x"), ("copy", "x", 2), ("end", 0)), boxes={"x": 2, "y": 1})

    def test_op(self):
        signs = (("+", 0), ("-", WIDE - 2), ("*", WIDE - 1), ("<", 0), ("=", 0), ("&", 1), ("|", WIDE - 1), ("^", WIDE - 2))
        for sign, expected in signs:
            self.check((("op", "x", sign, WIDE - 1, 1), ("end", 0)), boxes={"x": expected})
        self.check((("copy", "a", 9), ("copy", "b", 4), ("op", "x", "-", "a", "b"), ("end", 0)), boxes={"a": 9, "b": 4, "x": 5})
        self.check((("copy", "a", 9), ("op", "a", "-", 4, "a"), ("end", 0)), boxes={"a": WIDE - 5})
        self.check((("copy", "a", 9), ("op", "a", "+", "a", "a"), ("end", 0)), boxes={"a": 18})
        self.check((("op", "x", "=", "a", "b"), ("end", 0)), boxes={"x": 1})

    def test_load(self):
        self.check((("load", "x", "c"), ("end", 0)), boxes={"x": 5})
        self.check((("load", "x", "m"), ("load", "y", "d"), ("end", 0)), boxes={"x": WIDE - 1})
        self.check((("copy", "x", 3), ("load", "x", "d"), ("end", 0)))

    def test_store(self):
        self.check((("store", "c", 8), ("end", 0)), cells={"c": 8})
        self.check((("store", "d", 8), ("store", "d", 0), ("store", "m", 1), ("end", 0)), cells={"d": 0, "m": 1})
        self.check((("copy", "x", 6), ("store", "d", "x"), ("copy", "x", 0), ("end", 0)), cells={"d": 6})
        self.check((("store", "c", "x"), ("load", "y", "c"), ("end", 0)), cells={"c": 0})

    def test_load_behind_store(self):
        self.check((("store", "d", 8), ("load", "x", "d"), ("store", "d", 9), ("end", 0)), boxes={"x": 8}, cells={"d": 9})

    def test_lay(self):
        self.check((("lay", "f", 0, 1), ("end", 0)), shelves={"f": [1, 0, 0]})
        self.check((("lay", "f", 1, 2), ("lay", "f", 2, 3), ("end", 0)), shelves={"f": [0, 2, 3]})
        self.check((("copy", "x", 2), ("lay", "f", "x", "x"), ("end", 0)), boxes={"x": 2}, shelves={"f": [0, 0, 2]})
        self.check((("lay", "f", "x", 4), ("lay", "f", 0, "x"), ("end", 0)))
        self.check((("copy", "x", 1), ("copy", "y", 5), ("lay", "h", "x", "y"), ("end", 0)), boxes={"x": 1, "y": 5},
                   shelves={"h": [0, 5, 0, 0, 0, 0, 0, 0]})

    def test_lay_at_the_size_and_far_beyond(self):
        self.check((("lay", "f", 3, 1), ("lay", "f", 7, 2), ("end", 0)), shelves={"f": [1, 2, 0]})
        self.check((("lay", "g", 1, 1), ("end", 0)), shelves={"g": [1]})
        self.check((("lay", "g", WIDE - 1, 2), ("end", 0)), shelves={"g": [2]})
        self.check((("lay", "h", 8, 1), ("lay", "h", WIDE - 1, 2), ("end", 0)), shelves={"h": [1, 0, 0, 0, 0, 0, 0, 2]})
        # WIDE is one more than a number of threes.
        self.check((("lay", "f", WIDE - 1, 7), ("lay", "f", WIDE - 2, 8), ("end", 0)), shelves={"f": [7, 0, 8]})
        self.check((("op", "x", "-", 0, 1), ("lay", "h", "x", 3), ("end", 0)), boxes={"x": WIDE - 1},
                   shelves={"h": [0, 0, 0, 0, 0, 0, 0, 3]})

    def test_take(self):
        laid = (("lay", "f", 0, 10), ("lay", "f", 1, 11), ("lay", "f", 2, 12))
        full = {"f": [10, 11, 12]}
        for place, expected in ((0, 10), (1, 11), (2, 12), (3, 10), (4, 11), (5, 12), (WIDE - 1, 10), (WIDE - 2, 12)):
            self.check(laid + (("take", "x", "f", place), ("end", 0)), boxes={"x": expected}, shelves=full)
        self.check(laid + (("take", "x", "f", "x"), ("end", 0)), boxes={"x": 10}, shelves=full)
        self.check(laid + (("copy", "x", 5), ("take", "x", "f", "x"), ("end", 0)), boxes={"x": 12}, shelves=full)
        self.check(laid + (("copy", "x", 5), ("take", "x", "g", 0), ("end", 0)), shelves=full)
        self.check((("lay", "g", 0, 9), ("take", "x", "g", WIDE - 1), ("end", 0)), boxes={"x": 9}, shelves={"g": [9]})

    def test_hear(self):
        self.check((("hear", "x"), ("end", 0)), letters=[4, 5], boxes={"x": 4}, heard=1)
        self.check((("hear", "x"), ("hear", "y"), ("end", 0)), letters=[4, 5], boxes={"x": 4, "y": 5}, heard=2)
        self.check((("hear", "x"), ("hear", "x"), ("end", 0)), letters=[4, WIDE - 1], boxes={"x": WIDE - 1}, heard=2)

    def test_hear_without_letters(self):
        self.check((("copy", "x", 3), ("hear", "x"), ("end", 0)), heard=1)
        rows = (("hear", "x"), ("hear", "y"), ("copy", "a", 1), ("hear", "a"), ("end", 0))
        self.check(rows, letters=[8], boxes={"x": 8}, heard=3)

    def test_say(self):
        self.check((("say", 3), ("end", 0)), sent=[3])
        self.check((("say", "x"), ("say", 0), ("say", WIDE - 1), ("end", 0)), sent=[0, 0, WIDE - 1])
        self.check((("copy", "x", 3), ("say", "x"), ("copy", "x", 4), ("say", "x"), ("end", 0)), boxes={"x": 4}, sent=[3, 4])

    def test_if(self):
        self.check((("if", 0, 0), ("end", 0)), stands=1)
        for atom in (1, 2, WIDE - 1):
            self.check((("if", atom, 0), ("end", 0)), stands=0)
            self.check((("if", atom, 1), ("end", 0)), stands=1)
        self.check((("if", 0, 1), ("end", 0)), stands=1)
        self.check((("if", "x", 0), ("end", 0)), stands=1)
        self.check((("copy", "x", 2), ("if", "x", 0), ("end", 0)), boxes={"x": 2}, stands=0)
        self.check((("copy", "x", 2), ("if", "x", 3), ("say", "x"), ("if", "x", 0), ("end", 0)), boxes={"x": 2}, stands=1)

    def test_go(self):
        self.check((("go", 1), ("end", 0)), stands=1)
        self.check((("go", 2), ("say", 1), ("go", 1), ("end", 0)), sent=[1], stands=2)
        self.check((("go", 0), ("end", 0)), stands=0)


class Ends(unittest.TestCase):
    def test_answers(self):
        for atom in (0, 1, WIDE - 1):
            self.assertEqual(ended_run(("end", atom)).answer(), atom)
            self.assertEqual(ended_run(("copy", "x", atom), ("end", "x")).answer(), atom)
        self.assertEqual(ended_run(("end", "x")).answer(), 0)

    def test_ahead_of_the_end_at_it_and_behind_further_steps(self):
        run = run_of(("copy", "x", 4), ("hear", "y"), ("say", "x"), ("end", "x"), ("say", 9), ("end", 1), letters=[2])
        for turn in range(4):
            self.assertEqual((run.stands(), run.ended(), run.answer(), run.count()), (turn, False, None, turn))
            run.step()
        for turn in range(4):
            self.assertEqual((run.stands(), run.ended(), run.answer(), run.count()), (3, True, 4, 4))
            self.assertEqual((run.box("x"), run.box("y"), run.sent(), run.heard()), (4, 2, [4], 1))
            run.step()

    def test_an_end_at_row_0(self):
        run = run_of(("end", 0), ("end", 1))
        self.assertEqual((run.stands(), run.ended(), run.answer(), run.count()), (0, False, None, 0))
        for turn in range(3):
            run.step()
            self.assertEqual((run.stands(), run.ended(), run.answer(), run.count()), (0, True, 0, 1))

    def test_which_of_several_ends(self):
        rows = (("hear", "x"), ("if", "x", 3), ("end", 10), ("end", 20))
        self.assertEqual((ended_run(*rows).answer(), ended_run(*rows).stands()), (10, 2))
        self.assertEqual((ended_run(*rows, letters=[1]).answer(), ended_run(*rows, letters=[1]).stands()), (20, 3))


class Loops(unittest.TestCase):
    def test_some_hundred_rounds(self):
        rows = (("copy", "i", 500), ("op", "s", "+", "s", "i"), ("op", "i", "-", "i", 1), ("if", "i", 1), ("end", "s"))
        run = ended_run(*rows)
        self.assertEqual((run.answer(), run.count(), run.box("i")), (500 * 501 // 2, 1 + 3 * 500 + 1, 0))

    def test_without_an_end(self):
        run = ended_run(("op", "x", "+", "x", 1), ("say", "x"), ("go", 0))
        self.assertEqual((run.ended(), run.answer(), run.count(), run.stands()), (False, None, MOST, 0))
        self.assertEqual(run.sent(), list(range(1, MOST // 3 + 1)))

    def test_a_hundred_letters(self):
        rows = (("hear", "x"), ("op", "s", "+", "s", "x"), ("lay", "h", "x", "s"), ("say", "s"), ("if", "x", 0), ("end", "s"))
        run = ended_run(*rows, letters=list(range(100, 0, -1)))
        self.assertEqual((run.answer(), run.heard(), run.count()), (5050, 101, 506))
        self.assertEqual(run.sent(), [sum(range(101 - done, 101)) for done in range(1, 101)] + [5050])
        self.assertEqual(run.shelf("h"), [5050] + [sum(range(place, 101)) for place in range(1, 8)])

    def test_hears_without_end(self):
        run = ended_run(("hear", "x"), ("go", 0), letters=[1, 2])
        self.assertEqual((run.heard(), run.count(), run.box("x")), (MOST // 2, MOST, 0))

    def test_from_a_text(self):
        run = Plain(read("twin c 5\nat again\nload x c\nsay x\nx = x - 1\nstore c x\nif x again\nend x"), [])
        for turn in range(26):
            run.step()
        self.assertEqual((run.answer(), run.sent(), run.cell("c"), run.count()), (0, [5, 4, 3, 2, 1], 0, 26))


class Names(unittest.TestCase):
    def test_a_box_called_like_a_cell(self):
        run = ended_run(("copy", "c", 1), ("load", "x", "c"), ("store", "c", 9), ("end", "c"))
        self.assertEqual((run.box("c"), run.cell("c"), run.box("x"), run.answer()), (1, 9, 5, 1))

    def test_a_box_called_like_a_shelf(self):
        run = ended_run(("copy", "f", 1), ("lay", "f", "f", "f"), ("take", "x", "f", 0), ("lay", "f", 2, 8), ("end", "f"))
        self.assertEqual((run.box("f"), run.shelf("f"), run.box("x"), run.answer()), (1, [0, 1, 8], 0, 1))

    def test_boxes_called_like_kinds_and_signs_of_rows(self):
        run = ended_run(("copy", "copy", 3), ("op", "op", "+", "copy", "end"), ("hear", "hear"), ("end", "op"), letters=[4])
        self.assertEqual((run.box("copy"), run.box("op"), run.box("hear"), run.answer()), (3, 3, 4, 3))

    def test_asking_a_box_sets_nothing(self):
        run = ended_run(("copy", "x", 2), ("end", "x"))
        self.assertEqual([run.box(name) for name in ("none", "y", "none", "x", "end")], [0, 0, 0, 2, 0])


class Own(unittest.TestCase):
    """Nothing that is handed in is changed, and what is told is the asker's own."""

    rows = (("hear", "x"), ("lay", "f", "x", "x"), ("say", "x"), ("if", "x", 0), ("end", "x"))

    def test_letters_changed_behind_the_making(self):
        for change in (list.clear, list.pop, lambda letters: letters.insert(0, 9), lambda letters: letters.append(9)):
            letters = [1, 2]
            run = Plain(program_of(*self.rows), letters)
            change(letters)
            for turn in range(20):
                run.step()
            self.assertEqual((run.sent(), run.heard(), run.answer()), ([1, 2, 0], 3, 0))

    def test_letters_changed_between_steps(self):
        letters = [1, 2]
        run = Plain(program_of(*self.rows), letters)
        run.step()
        letters.clear()
        for turn in range(20):
            run.step()
        self.assertEqual(run.sent(), [1, 2, 0])

    def test_what_is_handed_in_is_not_changed(self):
        letters = [1, 2]
        program = program_of(*self.rows)
        run = Plain(program, letters)
        for turn in range(20):
            run.step()
        self.assertEqual((letters, program), ([1, 2], program_of(*self.rows)))

    def test_what_is_told_is_the_askers_own(self):
        run = run_of(*self.rows, letters=[1, 2])
        for turn in range(4):
            for change in (list.clear, lambda told: told.append(7), lambda told: told.insert(0, 7)):
                change(run.sent())
                change(run.shelf("f"))
            run.step()
        self.assertEqual((run.sent(), run.shelf("f"), run.shelf("g")), ([1], [0, 1, 0], [0]))

    def test_what_was_told_is_not_changed_later(self):
        run = run_of(*self.rows, letters=[1, 2])
        sent, shelf = run.sent(), run.shelf("f")
        for turn in range(20):
            run.step()
        self.assertEqual((sent, shelf), ([], [0, 0, 0]))
        self.assertEqual((run.sent(), run.shelf("f")), ([1, 2, 0], [0, 1, 2]))

    def test_two_runs_in_turn(self):
        program = program_of(("hear", "x"), ("store", "c", "x"), ("lay", "f", "x", "x"), ("say", "x"), ("end", "x"))
        letters = [1]
        one = Plain(program, letters)
        letters[0] = 2
        other = Plain(program, letters)
        for turn in range(5):
            one.step()
            self.assertEqual((one.count(), other.count()), (turn + 1, turn))
            other.step()
        self.assertEqual((one.answer(), one.cell("c"), one.shelf("f"), one.sent(), one.box("x")), (1, 1, [0, 1, 0], [1], 1))
        self.assertEqual((other.answer(), other.cell("c"), other.shelf("f"), other.sent()), (2, 2, [0, 0, 2], [2]))
        third = Plain(program, [])
        self.assertEqual((third.cell("c"), third.shelf("f"), third.sent(), third.box("x")), (5, [0, 0, 0], [], 0))


class Once:
    """The plain run once more, told another way than the program tells it."""

    def __init__(self, program, letters):
        self.rows = program[2]
        self.kept = {("cell", name): start for name, start, twin in program[0]}
        self.kept.update({("shelf", name, place): 0 for name, size, twin in program[1] for place in range(size)})
        self.sizes = {name: size for name, size, twin in program[1]}
        self.letters = iter(letters)
        self.here, self.sent, self.heard, self.count, self.answer = 0, [], 0, 0, None

    def of(self, atom):
        return atom if isinstance(atom, int) else self.kept.get(("box", atom), 0)

    def step(self):
        if self.answer is not None:
            return
        self.count += 1
        behind = self.here + 1
        match self.rows[self.here]:
            case ("copy", box, atom):
                self.kept["box", box] = self.of(atom)
            case ("op", box, sign, one, other):
                python = {"=": "=="}.get(sign, sign)
                self.kept["box", box] = int(eval(f"{self.of(one)} {python} {self.of(other)}")) % 2 ** 40
            case ("load", box, cell):
                self.kept["box", box] = self.kept["cell", cell]
            case ("store", cell, atom):
                self.kept["cell", cell] = self.of(atom)
            case ("take", box, shelf, atom):
                self.kept["box", box] = self.kept["shelf", shelf, self.of(atom) % self.sizes[shelf]]
            case ("lay", shelf, one, other):
                self.kept["shelf", shelf, self.of(one) % self.sizes[shelf]] = self.of(other)
            case ("hear", box):
                self.heard += 1
                self.kept["box", box] = next(self.letters, 0)
            case ("say", atom):
                self.sent.append(self.of(atom))
            case ("if", atom, there):
                behind = there if self.of(atom) else behind
            case ("go", there):
                behind = there
            case ("end", atom):
                self.answer = self.of(atom)
                behind = self.here
        self.here = behind


class Any(unittest.TestCase):
    def check_same(self, run, once):
        self.assertEqual((run.stands(), run.answer(), run.sent()), (once.here, once.answer, once.sent))
        self.assertEqual((run.heard(), run.count(), run.ended()), (once.heard, once.count, once.answer is not None))
        for key, expected in once.kept.items():
            if key[0] == "shelf":
                self.assertEqual(run.shelf(key[1])[key[2]], expected, key)
            else:
                self.assertEqual(run.box(key[1]) if key[0] == "box" else run.cell(key[1]), expected, key)

    def test_any_programs(self):
        chance = random.Random(10)
        answers = 0
        for turn in range(600):
            program = any_program(chance, 16)
            letters = [chance.choice((0, 1, 2, 5, chance.randrange(WIDE))) for letter in range(chance.randint(0, 6))]
            run, once = Plain(program, letters), Once(program, letters)
            for step in range(40):
                self.check_same(run, once)
                run.step()
                once.step()
            answers += run.ended()
        self.assertGreater(answers, 100)

    def test_greatest_programs(self):
        chance = random.Random(11)
        for turn in range(10):
            program = any_program(chance, 60)
            letters = [chance.randrange(WIDE) for letter in range(100)]
            run, once = Plain(program, letters), Once(program, letters)
            for step in range(MOST):
                run.step()
                once.step()
            self.check_same(run, once)

    def test_asked_again_with_equal_things(self):
        chance = random.Random(12)
        for turn in range(100):
            program = any_program(chance)
            runs = [Plain(program, [3, 1]), Plain(program, [3, 1])]
            for step in range(30):
                for run in runs:
                    run.step()
            one, other = [(run.stands(), run.answer(), run.sent(), run.shelf("f"), run.cell("c")) for run in runs]
            self.assertEqual(one, other)


if __name__ == "__main__":
    unittest.main()
