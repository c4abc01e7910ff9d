"""The promise over the whole: a house with any cutting that holds, and any failings, comes to what the plain run comes to."""

import random
import unittest

from dimhouse.faults import holds
from dimhouse.house import House
from dimhouse.maker import all_places, breath, make, thinned, without
from dimhouse.plain import Plain
from dimhouse.words import WIDE
from programs import (
    BOXES, any_boxes, any_busy_program, any_cutting, any_letters, any_looping_program, any_program, any_twins, boxes_needed,
    faults_there, is_piece_way, needing, program_of, rows_of, spoils, told,
)

MOST = 3000


def with_boxes_more(chance, code):
    """The cutting, with boxes more here and there."""
    return (any_boxes(chance, code[0], 1), tuple((row, any_boxes(chance, boxes, 1)) for row, boxes in code[1]))


def with_places_more(chance, program, code):
    """The cutting with some keeping-places more, with which it holds."""
    for row in chance.sample(range(len(program[2])), min(3, len(program[2]))):
        keeps = dict(code[1]) | {row: boxes_needed(program[2], row)}
        more = (code[0], tuple(sorted(keeps.items())))
        if not faults_there(program, more):
            code = more
    return code


def with_places_left_out(chance, program, code):
    """The cutting without some of its keeping-places, in any order, with which it holds."""
    rows = [row for row, boxes in code[1]]
    for row in chance.sample(rows, len(rows)):
        if chance.random() < 0.6 and not faults_there(program, without(code, row)):
            code = without(code, row)
    return code


def any_holding(chance, program):
    """Any cutting of the program that holds."""
    way = chance.randrange(5)
    code = make(program) if way == 0 else all_places(program)
    if way == 1:
        code = with_places_left_out(chance, program, code)
    elif way == 2:
        code = with_places_more(chance, program, make(program))
    elif way == 3:
        other = any_cutting(chance, program)
        code = code if faults_there(program, other) else other
    return with_boxes_more(chance, code) if chance.random() < 0.5 else code


class Plainly:
    """What the plain run does: its rows, by how many were done ahead, with the boxes there, and all that it sends."""

    def __init__(self, program, letters, most):
        self.run = Plain(program, letters)
        names = [name for row in program[2] for name in row if isinstance(name, str)]
        self.states = []
        while len(self.states) <= most and not self.run.ended():
            self.states.append((self.run.stands(), {name: self.run.box(name) for name in names}))
            self.run.step()

    def comings(self, code):
        """How many times a keeping-place's row is come to."""
        kept = [row for row, boxes in code[1]]
        return len([row for row, boxes in self.states[1:] if row in kept])


class Case(unittest.TestCase):
    def check_row(self, program, house, plainly, given):
        """Checks, of a house that is about to do a row, that the plain run does it too, reading the same.

        What was given to boxes since the coming up, from cells, shelves and letters too, must be the same as well."""
        row, boxes = plainly.states[house.count()]
        self.assertEqual(house.stands(), row)
        read = {atom for atom in told(program[2][row])[0] if isinstance(atom, str)}
        for name in read | given:
            self.assertEqual(house.box(name), boxes[name], name)

    def check_rest(self, program, house, run):
        self.assertEqual((house.answer(), house.letters()), (run.answer(), run.sent()))
        for name, start, twin in program[0]:
            self.assertEqual(house.cell(name), run.cell(name), name)
        for name, size, twin in program[1]:
            self.assertEqual(house.shelf(name), run.shelf(name), name)

    def follow(self, program, code, letters, failings, most):
        """Follows a house step by step up to its rest or so many steps; failings has lists of dusts by the steps ahead.

        Told are the house, how many failings came ahead of its rest, and the plain run."""
        house, plainly = House(program, code, letters), Plainly(program, letters, most)
        came, given = 0, set()
        for step in range(most):
            for dust in failings.get(step, []):
                came += not house.rests()
                house.fail(dust)
                given = set()
            if house.rests():
                break
            if house.stands() is not None:
                self.check_row(program, house, plainly, given)
                given |= {told(program[2][house.stands()])[1]} - {None}
            house.step()
            kept = house.letters()
            self.assertEqual((kept, house.torn()), (plainly.run.sent()[:len(kept)], False))
        if house.rests():
            self.check_rest(program, house, plainly.run)
        return house, came, plainly


class Small(Case):
    """All failings, one by one and two by two, of some small programs."""

    def check_all(self, text, letters=(), rows=None):
        program = rows_of(text)
        for code in {make(program), all_places(program)} if rows is None else {needing(program, *rows)}:
            self.assertEqual(faults_there(program, code), [])
            plainly = Plainly(program, list(letters), MOST)
            self.assertTrue(plainly.run.ended())
            bound = (plainly.comings(code) + 1) * breath(program, code)
            for first in range(bound):
                house, came, same = self.follow(program, code, list(letters), {first: [7]}, 2 * bound)
                self.assertTrue(house.rests())
                if not came:
                    break
                for second in range(first, first + breath(program, code) + 1):
                    failings = {first: [7], second: [WIDE - 1]} if second > first else {first: [7, WIDE - 1]}
                    house, came, same = self.follow(program, code, list(letters), failings, 3 * bound)
                    self.assertTrue(house.rests())

    def test_one_row(self):
        self.check_all("end 0")
        self.check_all("end x")

    def test_a_cell_counted_up(self):
        self.check_all("cell c 5 / load x c / x = x + 1 / store c x / load x c / x = x + 1 / store c x / end x")
        self.check_all("twin c 5 / load x c / x = x + 1 / store c x / load x c / x = x + 1 / store c x / end x")

    def test_a_loop_over_a_cell(self):
        self.check_all("cell c 2 / at l / load x c / say x / x = x - 1 / store c x / if x l / end x")
        self.check_all("twin c 2 / at l / load x c / say x / x = x - 1 / store c x / if x l / end x")

    def test_a_shelf_turned_round(self):
        for word in ("shelf", "twins"):
            self.check_all(f"{word} f 2 / lay f 0 4 / lay f 1 6 / take x f 0 / take y f 1 / lay f 0 y / lay f 1 x / take z f 0 / "
                           "say z / end x")

    def test_letters_summed(self):
        self.check_all("at l / hear x / s = s + x / say s / if x l / end s", [3, 4])

    def test_a_cell_stored_ahead_of_its_load(self):
        self.check_all("cell c 1 / hear x / store c x / load y c / y = y + y / store c y / end y", [3], (5,))

    def test_a_twin_and_a_plain_cell(self):
        self.check_all("twin c 1 / cell d 2 / load x c / load y d / store c y / store d x / load z c / say z / end z")


class Any(Case):
    def any_case(self, chance, turn):
        program = any_twins(chance, (any_program, any_busy_program, any_looping_program, any_looping_program)[turn % 4](chance))
        return program, any_holding(chance, program), any_letters(chance)

    def test_any_failings(self):
        chance = random.Random(80)
        rests = fails = 0
        for turn in range(500):
            program, code, letters = self.any_case(chance, turn)
            most = chance.randint(0, 300)
            failings = {chance.randint(0, most): [chance.choice((0, 1, 7, chance.randrange(WIDE))) for many in range(
                chance.choice((1, 1, 1, 2)))] for failing in range(chance.randint(0, 10))}
            last = max(failings, default=0)
            house, came, plainly = self.follow(program, code, letters, failings, last + 400)
            bound = (plainly.comings(code) + 1) * breath(program, code)
            # Where the plain run ends, the house rests at last behind the last failing.
            if plainly.run.ended() and bound <= 400:
                self.assertTrue(house.rests())
                rests += 1
                fails += came
        self.assertTrue(rests > 250 and fails > 250, (rests, fails))

    def test_failings_as_thick_as_they_like(self):
        chance = random.Random(81)
        for turn in range(100):
            program, code, letters = self.any_case(chance, turn)
            share = chance.choice((0.1, 0.3, 0.6))
            failings = {step: [chance.randrange(4)] for step in range(200) if chance.random() < share}
            self.follow(program, code, letters, failings, 300)

    def test_failings_no_nearer_than_the_breath(self):
        chance = random.Random(82)
        rests = fails = 0
        for turn in range(300):
            program, code, letters = self.any_case(chance, turn)
            width = breath(program, code)
            step, failings = 0, {}
            while step < 800:
                step += width + chance.choice((0, 0, 0, 1, 5))
                failings[step] = [chance.randrange(WIDE)]
            house, came, plainly = self.follow(program, code, letters, failings, 800)
            if plainly.run.ended():
                self.assertLessEqual(came, plainly.comings(code))
                rests += house.rests()
                fails += came
        self.assertTrue(rests > 150 and fails > 300, (rests, fails))


class Breath(unittest.TestCase):
    def turnings(self, house, steps):
        """How often the face is turned in so many steps."""
        faces = [house.face()]
        for step in range(steps):
            house.step()
            faces.append(house.face())
        return sum(one != other for one, other in zip(faces, faces[1:]))

    def test_the_face_is_turned_or_the_house_rests(self):
        chance = random.Random(83)
        rests = 0
        for turn in range(400):
            program = any_twins(chance, (any_program, any_busy_program, any_looping_program)[turn % 3](chance))
            code = any_holding(chance, program)
            house, width = House(program, code, any_letters(chance)), breath(program, code)
            for failing in range(12):
                self.assertTrue(self.turnings(house, width) > 0 or house.rests(), (program, code))
                rests += house.rests()
                self.turnings(house, chance.randint(0, width))
                house.fail(chance.randrange(WIDE))
                # Also a failing amid a coming up is one behind which it has all its breath.
                self.turnings(house, chance.choice((0, 0, 1, 2)))
                house.fail(chance.randrange(WIDE))
        self.assertGreater(rests, 500)

    def test_one_step_fewer_is_not_always_enough(self):
        program = rows_of("twin c 0 / at l / load x c / x = x + 1 / store c x / y = x < 3 / if y l / end x")
        code = make(program)
        self.assertEqual((code, breath(program, code)), (((), ((0, ()), (5, ("x",)))), 11))
        house = House(program, code, [])
        turned = []
        for failing in range(9):
            turned.append(self.turnings(house, 10))
            house.fail(0)
        self.assertEqual(turned[:2], [1, 1])
        # From here on it comes up, does its five rows and writes down all but the last step, again and again.
        self.assertEqual((turned[2:], house.rests(), house.count()), ([0] * 7, False, 10))
        self.assertEqual((self.turnings(house, 11), house.rests()), (1, False))


class Bounds(Case):
    def greatest(self, chance):
        """A program of 60 rows, 8 cells, 4 shelves and 12 names of boxes, which goes many times through its rows."""
        cells = tuple((f"cell{sign}", number, number % 2 == 0) for number, sign in enumerate("abcdefgh"))
        shelves = tuple((f"shel{sign}", 8 - number % 2, number % 2 == 0) for number, sign in enumerate("abcd"))
        boxes = list(BOXES) + ["zz", "end", "load"]
        rows = [("copy", "times", 40)]
        for number in range(1, 57):
            box, atom, other = (chance.choice(boxes) for turn in range(3))
            cell, shelf = chance.choice(cells)[0], chance.choice(shelves)[0]
            rows.append(chance.choice((
                ("copy", box, atom), ("op", box, chance.choice("+-*^"), atom, other), ("load", box, cell), ("store", cell, atom),
                ("take", box, shelf, atom), ("lay", shelf, atom, other), ("hear", box), ("hear", box), ("say", atom))))
        rows += [("op", "times", "-", "times", 1), ("if", "times", 1), ("end", "a")]
        return cells, shelves, tuple(rows)

    def test_the_greatest(self):
        chance = random.Random(84)
        for turn in range(3):
            program = self.greatest(chance)
            letters = [chance.randrange(WIDE) for letter in range(100)]
            code = make(program)
            self.assertEqual((len(program[2]), faults_there(program, code)), (60, []))
            failings = {step: [chance.randrange(WIDE)] for step in chance.sample(range(MOST), 60)}
            house, came, plainly = self.follow(program, code, letters, failings, MOST)
            self.assertEqual(came, 60)
            self.assertGreater(house.count(), 300)


class Whole(unittest.TestCase):
    """What is promised of the cuttings, once more over programs with any twins."""

    def test_what_is_made(self):
        chance = random.Random(85)
        for turn in range(200):
            program = any_twins(chance, (any_program, any_busy_program, any_looping_program)[turn % 3](chance))
            code = make(program)
            self.assertEqual(faults_there(program, code), [])
            self.assertTrue(holds(program, code))
            self.assertEqual(code, needing(program, *[row for row, boxes in code[1]]))
            for row, boxes in code[1]:
                self.assertNotEqual(faults_there(program, without(code, row)), [])
            self.assertEqual(thinned(program, code), code)

    def test_a_piece_that_spoils_shows_it(self):
        program = program_of(("load", "x", "c"), ("op", "x", "+", "x", 1), ("store", "c", "x"), ("end", "x"))
        code = needing(program, 3)
        self.assertTrue(is_piece_way(program, code, [0, 1, 2]) and spoils(program, "c", [0, 1, 2]))
        house, run = House(program, code, []), Plain(program, [])
        for step in range(4):
            house.step()
            run.step()
        house.fail(0)
        while not house.rests():
            house.step()
        self.assertEqual((run.answer(), house.answer()), (6, 7))


if __name__ == "__main__":
    unittest.main()
