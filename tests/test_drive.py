"""drive."""

import random
import unittest

from dimhouse.house import House, drive
from programs import any_cutting, any_letters, any_looping_program, any_twins, cutting, rows_of, shown, stepped

# It comes up (step 1), does row 0 (2), writes down by a box and a pair of the log (3 to 7), and ends (8). The begin does
# not keep x, so the answer tells the last dust.
PROGRAM = rows_of("twin c 5 / store c 6 / end x")
CODE = ((), ((1, ("x",)),))
STEPS = 8

RING = rows_of("at l / x = x + 1 / go l")


def house_of(program=PROGRAM, code=CODE):
    return House(program, code, [])


class Noting:
    """Stands for a house that notes what is asked of it, and rests behind so many steps."""

    def __init__(self, steps):
        self.left, self.asked = steps, []

    def rests(self):
        return self.left == 0

    def step(self):
        if self.left > 0:
            self.left -= 1
            self.asked.append("step")

    def fail(self, dust):
        self.asked.append(dust)


class NoFailings(unittest.TestCase):
    def test_until_it_rests(self):
        house = house_of()
        self.assertEqual(drive(house, []), STEPS)
        self.assertEqual((house.rests(), house.answer(), house.cell("c")), (True, 0, 6))

    def test_most(self):
        for most in range(STEPS + 4):
            house = house_of()
            self.assertEqual(drive(house, [], most), min(most, STEPS))
            self.assertEqual(shown(house, PROGRAM), shown(stepped(house_of(), most), PROGRAM))
            self.assertEqual(house.rests(), most >= STEPS)

    def test_most_0(self):
        house = house_of()
        self.assertEqual((drive(house, [], 0), shown(house, PROGRAM)), (0, shown(house_of(), PROGRAM)))

    def test_most_by_its_name(self):
        self.assertEqual(drive(house_of(), [], most=3), 3)
        self.assertEqual(drive(house=house_of(), failings=[], most=3), 3)

    def test_most_left_out(self):
        house = house_of(RING, cutting())
        self.assertEqual((drive(house, []), house.count()), (1000, 999))
        self.assertEqual((drive(house, []), house.count()), (1000, 1999))
        self.assertEqual((drive(house, [], 1001), house.count()), (1001, 3000))

    def test_a_house_that_rests(self):
        house = stepped(house_of(), STEPS)
        resting = shown(house, PROGRAM)
        self.assertEqual([drive(house, []), drive(house, [], 5), drive(house, [], 0)], [0, 0, 0])
        self.assertEqual(shown(house, PROGRAM), resting)

    def test_a_house_that_is_on_its_way(self):
        house = stepped(house_of(), 3)
        self.assertEqual((drive(house, []), house.rests()), (STEPS - 3, True))


class Failings(unittest.TestCase):
    def check(self, failings, most, told, **after):
        """Checks what drive tells and how the house is told behind it."""
        house = house_of()
        self.assertEqual(drive(house, failings, most), told)
        self.assertEqual({name: getattr(house, name)() for name in after}, after)
        return house

    def test_steps_and_then_a_failing(self):
        house = self.check([(2, 9)], 4, 4, stands=None, rests=False)
        # Behind the failing it came up and did row 0 once more.
        self.assertEqual(shown(house, PROGRAM), self.by_hand([2, 9, 2]))
        self.check([(2, 9)], 1000, 2 + STEPS, answer=9, rests=True)

    def by_hand(self, asked):
        """What a house shows behind steps and failings in turn."""
        house = house_of()
        for place, number in enumerate(asked):
            if place % 2:
                house.fail(number)
            else:
                stepped(house, number)
        return shown(house, PROGRAM)

    def test_several_failings(self):
        house = self.check([(2, 9), (1, 8), (3, 7)], 1000, 6 + STEPS, answer=7)
        self.assertEqual(shown(house, PROGRAM), self.by_hand([2, 9, 1, 8, 3, 7, STEPS]))

    def test_no_steps_ahead_of_a_failing(self):
        house = self.check([(0, 9)], 1, 1, stands=0)
        self.assertEqual(house.box("x"), 9)
        house = self.check([(0, 9), (0, 8), (1, 7), (0, 6)], 2, 2, stands=0)
        self.assertEqual(house.box("x"), 6)
        self.check([(0, 9)], 1000, STEPS, answer=9)

    def test_steps_that_come_to_just_most(self):
        self.check([(1, 9)], 1, 1, stands=None)
        house = self.check([(2, 9), (1, 8)], 3, 3, stands=None)
        self.assertEqual(stepped(house).box("x"), 8)

    def test_failings_behind_most_without_steps(self):
        house = self.check([(1, 9), (0, 8)], 1, 1, stands=None)
        self.assertEqual(stepped(house).box("x"), 8)
        house = self.check([(1, 9), (0, 8), (1, 7), (0, 6)], 1, 1, stands=None)
        self.assertEqual(stepped(house).box("x"), 8)

    def test_steps_that_come_to_one_more(self):
        house = self.check([(2, 9)], 1, 1, stands=0)
        self.assertEqual(house.box("x"), 0)
        house = self.check([(2, 9), (2, 8)], 3, 3, stands=0)
        self.assertEqual(house.box("x"), 9)
        self.check([(2, 9), (1000, 8), (0, 7)], 3, 3, stands=0)

    def test_no_failing_comes_any_more(self):
        house = self.check([(1, 9), (5, 8), (0, 7), (1, 6)], 2, 2, stands=0)
        self.assertEqual(house.box("x"), 9)

    def test_most_0(self):
        self.check([(1, 9)], 0, 0, stands=None)
        house = self.check([(0, 9)], 0, 0, stands=None)
        self.assertEqual(stepped(house).box("x"), 9)
        house = self.check([(1, 9), (0, 8)], 0, 0, stands=None)
        self.assertEqual(stepped(house).box("x"), 0)

    def test_steps_asked_of_a_house_that_rests_count(self):
        self.check([(STEPS + 5, 9)], 1000, STEPS, answer=0)
        self.check([(STEPS + 5, 9), (3, 8), (0, 7)], 1000, STEPS, answer=0, rests=True)
        noting = Noting(3)
        self.assertEqual(drive(noting, [(5, 9), (2, 8)], 7), 3)
        self.assertEqual(noting.asked, ["step"] * 3 + [9, 8])
        noting = Noting(3)
        self.assertEqual(drive(noting, [(5, 9), (2, 8), (0, 7)], 6), 3)
        self.assertEqual(noting.asked, ["step"] * 3 + [9])

    def test_most_left_out_with_failings(self):
        house = house_of(RING, cutting())
        self.assertEqual((drive(house, [(999, 4), (1, 3)]), house.stands()), (1000, None))
        house = house_of(RING, cutting())
        self.assertEqual((drive(house, [(999, 4), (2, 3)]), house.stands()), (1000, 0))

    def test_sixty_failings(self):
        house = house_of(RING, cutting())
        self.assertEqual(drive(house, [(50, dust) for dust in range(60)], 3000), 3000)
        self.assertEqual((stepped(house).count(), house.box("x")), (0, 59))

    def test_any_failings(self):
        chance = random.Random(90)
        for turn in range(200):
            program = any_twins(chance, any_looping_program(chance))
            code, letters = any_cutting(chance, program), any_letters(chance)
            failings = [(chance.choice((0, 1, 5, 20, 60)), chance.randrange(9)) for failing in range(chance.randint(0, 6))]
            most = chance.choice((0, 1, 20, 50, 100, 300, sum(steps for steps, dust in failings)))
            house, other = House(program, code, letters), House(program, code, letters)
            left, did, stopped = most, 0, False
            # One step at a time, each of which counts whether it does something or not.
            for steps, dust in failings + [(most, None)]:
                for step in range(steps):
                    if left > 0:
                        did += not other.rests()
                        other.step()
                    stopped = stopped or left == 0
                    left = max(0, left - 1)
                if dust is not None and not stopped:
                    other.fail(dust)
            self.assertEqual(drive(house, failings, most), did)
            self.assertEqual(shown(house, program), shown(other, program))


class Same(unittest.TestCase):
    def test_the_list_of_failings_stays(self):
        failings = [(2, 9), (0, 8), (500, 7), (600, 6)]
        for most in (1, 100, 1000, 3000):
            drive(house_of(), failings, most)
            self.assertEqual(failings, [(2, 9), (0, 8), (500, 7), (600, 6)])

    def test_failings_changed_behind_the_call(self):
        failings = [(2, 9)]
        house, other = house_of(), house_of()
        drive(house, failings, 5)
        failings[0] = (0, 3)
        drive(other, [(2, 9)], 5)
        self.assertEqual(shown(stepped(house, 9), PROGRAM), shown(stepped(other, 9), PROGRAM))

    def test_equal_questions_get_equal_answers(self):
        for most in range(20):
            houses = [house_of(), house_of()]
            one, other = (drive(house, [(3, 4), (4, 5)], most) for house in houses)
            self.assertEqual((one, type(one)), (other, int))
            self.assertEqual(*(shown(house, PROGRAM) for house in houses))


if __name__ == "__main__":
    unittest.main()
