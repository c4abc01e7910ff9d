"""House, its current failing at any step."""

import random
import unittest

from dimhouse.house import House
from dimhouse.plain import Plain
from dimhouse.words import WIDE
from programs import (
    any_boxes, any_busy_program, any_cutting, any_letters, any_looping_program, any_program, any_twins, cutting, rows_of,
    shown, stays, stepped,
)

# Behind coming up (1 step) it does rows 0 to 3 (steps 2 to 5), writes down at row 4 by 2 boxes and 2 pairs of the log (8
# steps, 6 to 13, the turning being step 11), does rows 4 to 6 (14 to 16), writes down at row 7 by 1 box and 1 pair (5
# steps, 17 to 21, the turning being step 20), and ends (22).
TEXT = "twin c 5 / twins f 2 / cell d 1 / hear x / say x / store c x / lay f 1 4 / load y c / lay f 0 y / say y / end y"
PROGRAM = rows_of(TEXT)
CODE = ((), ((4, ("b", "x")), (7, ("y",))))
LETTERS = [8, 9]


def house_behind(steps, program=PROGRAM, code=CODE, letters=LETTERS):
    """The house, behind so many steps without failing."""
    return stepped(House(program, code, list(letters)), steps)


def seen(house):
    """Where the house stands and its boxes."""
    return house.stands(), house.count(), [house.box(name) for name in ("b", "x", "y", "zz")]


class Lost(unittest.TestCase):
    def test_nothing_that_stays_is_changed(self):
        for steps in range(25):
            house = house_behind(steps)
            ahead = stays(house, PROGRAM)
            house.fail(6)
            self.assertEqual(stays(house, PROGRAM), ahead)
            house.fail(7)
            self.assertEqual(stays(house, PROGRAM), ahead)

    def test_where_it_stands_is_lost(self):
        for steps in range(22):
            house = house_behind(steps)
            house.fail(6)
            # The count is that of the page that counts as long as it comes up.
            self.assertEqual(seen(house), (None, 0 if steps < 11 else 4 if steps < 20 else 7, [0] * 4))

    def test_ahead_of_the_first_turning(self):
        for steps in range(11):
            house = house_behind(steps)
            house.fail(6)
            self.assertEqual(seen(stepped(house)), (0, 0, [6] * 4), steps)
            self.assertEqual((house.cell("c"), house.shelf("f"), house.cell("d")), (5, [0, 0], 1))
            self.assertEqual(seen(stepped(house)), (1, 1, [6, 8, 6, 6]), steps)

    def test_ahead_of_the_second_turning(self):
        for steps in range(11, 20):
            house = house_behind(steps)
            house.fail(6)
            self.assertEqual((house.cell("c"), house.shelf("f")), (5 if steps < 12 else 8, [0, 0 if steps < 13 else 4]))
            stepped(house)
            self.assertEqual((seen(house), house.cell("c"), house.shelf("f")[0]), ((None, 4, [0] * 4), 8, 0))
            stepped(house)
            self.assertEqual((seen(house), house.shelf("f")), ((None, 4, [0] * 4), [0, 4]))
            # Box b was kept with the 0 that was in it, y and zz were not kept.
            self.assertEqual(seen(stepped(house)), (4, 4, [0, 8, 6, 6]), steps)
            self.assertEqual(seen(stepped(house)), (5, 5, [0, 8, 8, 6]), steps)

    def test_ahead_of_the_end(self):
        for steps in range(20, 22):
            house = house_behind(steps)
            house.fail(6)
            self.assertEqual(seen(stepped(house)), (None, 7, [0] * 4))
            self.assertEqual(house.shelf("f"), [8, 4])
            self.assertEqual(seen(stepped(house)), (7, 7, [6, 6, 8, 6]), steps)
            self.assertEqual((stepped(house).answer(), house.rests(), house.count()), (8, True, 7))

    def test_one_failing_anywhere(self):
        resting = stays(house_behind(22), PROGRAM)
        self.assertEqual(resting[6:8], (8, [8, 8]))
        for steps in range(23):
            house = house_behind(steps)
            house.fail(WIDE - 1)
            left = 0
            while not house.rests():
                house.step()
                left += 1
            # The unneeded box b is kept as what was in it, so pages may tell the dust.
            self.assertEqual(stays(house, PROGRAM)[:2] + stays(house, PROGRAM)[5:], resting[:2] + resting[5:])
            self.assertEqual(left, 22 if steps < 11 else 12 if steps < 20 else 3 if steps < 22 else 0, steps)

    def test_a_failing_at_each_step_of_coming_up(self):
        for steps in (0, 1, 2):
            house = house_behind(15)
            house.fail(6)
            stepped(house, steps).fail(7)
            self.assertEqual(seen(house), (None, 4, [0] * 4))
            self.assertEqual(seen(stepped(house, 2)), (None, 4, [0] * 4))
            self.assertEqual(seen(stepped(house)), (4, 4, [0, 8, 7, 7]))

    def test_a_failing_right_behind_coming_up(self):
        house = house_behind(15)
        for dust in (6, 7, 0, WIDE - 1):
            house.fail(dust)
            self.assertEqual(seen(stepped(house, 3)), (4, 4, [0, 8, dust, dust]))

    def test_two_failings_one_right_behind_the_other(self):
        for steps in range(22):
            twice, once = house_behind(steps), house_behind(steps)
            twice.fail(6)
            twice.fail(7)
            once.fail(7)
            for turn in range(25):
                self.assertEqual(shown(twice, PROGRAM), shown(once, PROGRAM))
                twice.step()
                once.step()

    def test_a_failing_ahead_of_the_first_step_gives_its_dust(self):
        house = House(rows_of("x = a + b / end x"), (("a",), ((1, ("x",)),)), [])
        house.fail(6)
        self.assertEqual((house.stands(), house.count(), house.box("b")), (None, 0, 0))
        stepped(house)
        self.assertEqual([house.box(name) for name in ("a", "b", "x", "zz", "end")], [0, 6, 6, 6, 6])

    def test_the_dust_stays_behind_writing_down(self):
        house = House(rows_of("x = 1 / x = 2 / y = 3 / end x"), ((), ((1, ("w",)), (2, ("x",)), (3, ("x",)))), [])
        house.fail(9)
        found = []
        while not house.rests():
            found.append((house.stands(), house.box("x"), house.box("zz")))
            house.step()
        self.assertEqual([told for told in found if told[0] is not None], [(0, 9, 9), (1, 1, 9), (2, 2, 9), (3, 2, 9)])
        self.assertEqual((house.page(0), house.page(1)), ((2, 2, 0, 0, [("x", 2)], []), (3, 3, 0, 0, [("x", 2)], [])))

    def test_dust_is_written_down_in_a_box_that_is_not_needed(self):
        house = House(rows_of("x = 1 / end x"), ((), ((1, ("w", "x")),)), [])
        stepped(house, 1).fail(9)
        self.assertEqual(stepped(house, 5).page(1), (1, 1, 0, 0, [("w", 9), ("x", 1)], []))
        stepped(house).fail(4)
        stepped(house)
        self.assertEqual([house.box(name) for name in ("w", "x", "zz")], [9, 1, 4])

    def test_a_log_ahead_of_the_turning_is_lost(self):
        program = rows_of("twin c 5 / load x c / store c 7 / load y c / end y")
        for steps in range(1, 7):
            house = house_behind(steps, program, ((), ((3, ("y",)),)), [])
            house.fail(0)
            self.assertEqual((stepped(house, 2).box("x"), house.cell("c")), (5, 5))

    def test_a_page_half_written_is_begun_anew(self):
        house = house_behind(9)
        self.assertEqual(house.page(1), (4, 4, 1, 1, [("b", 0), ("x", 8)], [(("c", 0), 8)]))
        house.fail(3)
        stepped(house, 5)
        self.assertEqual(house.page(1), (4, 4, 1, 1, [("b", 0), ("x", 8)], [(("c", 0), 8)]))
        self.assertEqual(stepped(house).page(1), (4, 4, 1, 1, [], []))
        self.assertEqual(stepped(house).page(1), (4, 4, 1, 1, [("b", 3)], []))

    def test_the_keeping_place_at_row_0_is_not_written_down_this_time(self):
        house = House(rows_of("at l / x = x + 1 / go l"), (("x",), ((0, ("x",)),)), [])
        stepped(house, 6)
        self.assertEqual((house.stands(), house.page(1)), (0, (0, 2, 0, 0, [("x", 1)], [])))
        house.fail(3)
        self.assertEqual((stepped(house).stands(), house.box("x"), house.count()), (0, 1, 2))
        self.assertEqual((stepped(house, 2).stands(), house.count()), (None, 2))


class Letters(unittest.TestCase):
    def test_a_letter_said_twice_by_the_same_number(self):
        house = house_behind(3)
        self.assertEqual(house.letters(), [8])
        house.fail(6)
        self.assertEqual(stepped(house, 2).letters(), [8])
        self.assertEqual((stepped(house).letters(), house.torn()), ([8], False))
        stepped(house, 19)
        self.assertEqual((house.letters(), house.torn(), house.rests()), ([8, 8], False, True))

    def test_letters_are_heard_again(self):
        program = rows_of("hear x / hear y / z = x - y / end z")
        for steps in range(12):
            house = house_behind(steps, program, ((), ((1, ("x",)), (3, ("z",)))), [9, 4, 1])
            house.fail(2)
            self.assertEqual((stepped(house, 14).answer(), house.page(house.face())[2]), (5, 2))

    def test_a_torn_hand_where_a_cutting_does_not_hold(self):
        program = rows_of("cell c 5 / load x c / say x / x = x + 1 / store c x / end x")
        code = ((), ((4, ("x",)),))
        house = house_behind(5, program, code)
        self.assertEqual((house.letters(), house.torn(), house.cell("c")), ([5], False, 6))
        house.fail(0)
        self.assertEqual((stepped(house, 2).torn(), house.letters()), (False, [5]))
        self.assertEqual((stepped(house).torn(), house.letters()), (True, [5]))
        house.fail(0)
        self.assertTrue(house.torn())
        self.assertEqual((stepped(house, 20).answer(), house.letters(), house.torn()), (7, [5], True))

    def test_dust_in_a_box_that_is_lost(self):
        program = rows_of("x = 3 / say 1 / end x")
        house = house_behind(4, program, cutting(1, 2), [])
        house.fail(9)
        self.assertEqual((stepped(house, 8).answer(), house.letters()), (9, [1]))

    def test_an_end_that_is_no_keeping_places(self):
        program = rows_of("twin c 5 / store c 6 / end 2")
        house = house_behind(2, program, cutting(), [])
        house.fail(3)
        self.assertEqual((stepped(house, 2).stands(), house.rests()), (1, False))
        self.assertEqual((stepped(house).answer(), house.cell("c")), (2, 5))
        house.fail(3)
        self.assertEqual((house.rests(), house.answer(), house.stands(), stepped(house).cell("c")), (True, 2, None, 5))


class Once:
    """The house once more, told another way than the program tells it: as a life that ends at a failing."""

    def __init__(self, program, code, letters):
        self.program, self.keeps, self.letters_in = program, dict(code[1]), letters
        self.home = {(name, 0): start for name, start, twin in program[0]}
        self.home.update({(name, place): 0 for name, size, twin in program[1] for place in range(size)})
        self.sizes = {name: size for name, size, twin in program[1]}
        self.twins = {name for name, number, twin in program[0] + program[1] if twin}
        self.pages = [[0, 0, 0, 0, [(box, 0) for box in code[0]], []], [0, 0, 0, 0, [], []]]
        self.counting, self.result, self.taken, self.rent = 0, None, {}, False
        self.fail(0)

    def fail(self, dust):
        if self.result is None:
            self.life = self.living(dust)
            self.now = next(self.life)

    def step(self):
        if self.result is None:
            self.now = next(self.life, None)

    def living(self, dust):
        """Each time ahead of a step: the row that it does, the count of rows done and the boxes, or None."""
        row, done, heard, sent, boxes, turns = self.pages[self.counting]
        for place, worth in turns:
            yield None
            self.home[place] = worth
        yield None
        state = {"done": done, "heard": heard, "sent": sent, "boxes": dict(boxes), "log": {}, "dust": dust}
        while self.result is None:
            yield row, state["done"], state["boxes"], dust
            row = self.do(row, state)
            if row in self.keeps and self.result is None:
                yield from self.writing(row, state)

    def writing(self, row, state):
        yield None
        page = self.pages[1 - self.counting]
        page[:] = [row, state["done"], state["heard"], state["sent"], [], []]
        for box in self.keeps[row]:
            yield None
            page[4].append((box, state["boxes"].get(box, state["dust"])))
        for item in state["log"].items():
            yield None
            page[5].append(item)
        yield None
        self.counting = 1 - self.counting
        for place, worth in page[5]:
            yield None
            self.home[place] = worth
        state["log"].clear()

    def do(self, number, state):
        """Does the row and tells where it leads."""
        boxes, log = state["boxes"], state["log"]

        def of(atom):
            return atom if isinstance(atom, int) else boxes.get(atom, state["dust"])

        def put(name, place, worth):
            (log if name in self.twins else self.home)[name, place] = worth

        state["done"] += 1
        match self.program[2][number]:
            case ("copy", box, atom):
                boxes[box] = of(atom)
            case ("op", box, sign, one, other):
                boxes[box] = int(eval(f"{of(one)} {'==' if sign == '=' else sign} {of(other)}")) % 2 ** 40
            case ("load", box, cell):
                boxes[box] = {**self.home, **log}[cell, 0]
            case ("take", box, shelf, atom):
                boxes[box] = {**self.home, **log}[shelf, of(atom) % self.sizes[shelf]]
            case ("store", cell, atom):
                put(cell, 0, of(atom))
            case ("lay", shelf, one, other):
                put(shelf, of(one) % self.sizes[shelf], of(other))
            case ("hear", box):
                boxes[box] = (self.letters_in[state["heard"]:] + [0])[0]
                state["heard"] += 1
            case ("say", atom):
                self.rent = self.taken.setdefault(state["sent"], of(atom)) != of(atom) or self.rent
                state["sent"] += 1
            case ("if", atom, there):
                return there if of(atom) else number + 1
            case ("go", there):
                return there
            case ("end", atom):
                self.result = of(atom)
        return number + 1

    def shown(self):
        """What the tests' shown tells of a house."""
        cells = {name: self.home[name, 0] for name, start, twin in self.program[0]}
        shelves = {name: [self.home[name, place] for place in range(size)] for name, size, twin in self.program[1]}
        letters = []
        while len(letters) in self.taken:
            letters.append(self.taken[len(letters)])
        pages = [tuple(page) for page in self.pages]
        staying = (cells, shelves, self.counting, *pages, self.result is not None, self.result, letters, self.rent)
        stands, done, boxes, dust = self.now or (None, pages[self.counting][1], {}, 0)
        names = {name for row in self.program[2] for name in row if isinstance(name, str)} | {"zz"}
        return staying, stands, done, {name: boxes.get(name, dust) for name in names}


def careless_cutting(chance, program):
    """Any cutting of the program, which seldom holds."""
    share = chance.random() / 2
    kept = [number for number in range(len(program[2])) if chance.random() < share]
    return (any_boxes(chance, "axy", 0.5), tuple((row, any_boxes(chance, "axy", 0.5)) for row in kept))


class Any(unittest.TestCase):
    def check(self, chance, program, code, letters, steps):
        """Checks the house at each step against the house once more, failing now and then; tells how often it failed."""
        house, once = House(program, code, letters), Once(program, code, letters)
        share = chance.choice((0, 0.02, 0.05, 0.2))
        failings = 0
        for step in range(steps):
            self.assertEqual(shown(house, program), once.shown(), (program, code, letters, step))
            if chance.random() < share:
                dust = chance.choice((0, 1, 2, chance.randrange(WIDE)))
                house.fail(dust)
                once.fail(dust)
                failings += 1
                self.assertEqual(shown(house, program), once.shown(), (program, code, letters, step))
            house.step()
            once.step()
        return failings, house

    def test_any_programs_cuttings_and_failings(self):
        chance = random.Random(71)
        rests = fails = torn = 0
        for turn in range(600):
            program = any_twins(chance, (any_program, any_busy_program, any_looping_program)[turn % 3](chance))
            code = any_cutting(chance, program) if turn % 2 else careless_cutting(chance, program)
            failings, house = self.check(chance, program, code, any_letters(chance), 60)
            rests, fails, torn = rests + house.rests(), fails + failings, torn + house.torn()
        self.assertTrue(rests > 100 and fails > 500 and torn > 3, (rests, fails, torn))

    def test_greatest_programs(self):
        chance = random.Random(72)
        for turn in range(4):
            program = any_twins(chance, any_busy_program(chance, 60))
            self.check(chance, program, any_cutting(chance, program), any_letters(chance, 100), 400)

    def test_a_house_that_never_fails_goes_as_the_plain_run(self):
        chance = random.Random(73)
        for turn in range(200):
            program = any_twins(chance, any_looping_program(chance))
            letters = any_letters(chance)
            house, run = House(program, any_cutting(chance, program), letters), Plain(program, letters)
            for step in range(200):
                house.step()
                if house.stands() is not None:
                    while run.count() < house.count():
                        run.step()
                    self.assertEqual(house.stands(), run.stands())
                    self.assertEqual([house.box(name) for name in "xya"], [run.box(name) for name in "xya"])

    def test_asked_again_with_equal_things(self):
        chance = random.Random(74)
        for turn in range(60):
            program = any_twins(chance, any_looping_program(chance))
            code, letters = any_cutting(chance, program), any_letters(chance)
            one, other = House(program, code, letters), House(program, code, list(letters))
            for step in range(60):
                if chance.random() < 0.1:
                    one.fail(step)
                    other.fail(step)
                stepped(one)
                stepped(other)
                self.assertEqual(shown(one, program), shown(other, program))


if __name__ == "__main__":
    unittest.main()
