"""ways and value."""

import random
import unittest

from dimhouse.flow import value, ways
from dimhouse.words import WIDE
from programs import KINDS, SIGNS, any_program, led, program_of


class Ways(unittest.TestCase):
    def check(self, rows, expected):
        found = ways(program_of(*rows))
        self.assertEqual(found, expected)
        self.assertIs(type(found), list)
        for one in found:
            self.assertIs(type(one), tuple)
            self.assertTrue(all(type(way) is int for way in one))

    def test_each_kind_at_the_first_a_middle_and_the_last_row(self):
        for row in KINDS:
            for place in range(3):
                onward = {"go": (0,), "if": (0, place + 1), "end": ()}.get(row[0], (place + 1,))
                # A row that falls off the end would not be in order.
                last = place if row[0] in ("go", "end") else 3
                rows = [("end", 0)] * (max(last, 2) + 1)
                rows[place] = row
                expected = [()] * len(rows)
                expected[place] = onward
                self.check(rows, expected)

    def test_all_kinds(self):
        expected = [(1,), (2,), (3,), (4,), (5,), (6,), (7,), (8,), (0, 9), (0,), ()]
        self.check(KINDS, expected)

    def test_one_row(self):
        self.check([("end", 0)], [()])
        self.check([("go", 0)], [(0,)])

    def test_if_to_the_next_row(self):
        self.check([("if", "x", 1), ("end", 0)], [(1, 1), ()])

    def test_if_to_itself_and_ahead_and_back(self):
        self.check([("if", "x", 0), ("if", 0, 3), ("if", 5, 1), ("end", 0)], [(0, 1), (3, 2), (1, 3), ()])

    def test_go_to_the_next_row_itself_and_back(self):
        self.check([("go", 1), ("go", 1), ("go", 0)], [(1,), (1,), (0,)])

    def test_the_list_is_the_askers_own(self):
        program = program_of(*KINDS)
        first = ways(program)
        kept = list(first)
        first[0] = (7,)
        first.append((1,))
        self.assertEqual(ways(program), kept)
        first.clear()
        self.assertEqual(ways(program), kept)
        self.assertEqual(program, program_of(*KINDS))

    def test_sixty_rows(self):
        rows = [("if", "x", 59 - number) for number in range(59)] + [("go", 59)]
        self.check(rows, [(59 - number, number + 1) for number in range(59)] + [(59,)])

    def test_any_programs(self):
        chance = random.Random(4)
        for turn in range(500):
            rows = any_program(chance)[2]
            self.check(rows, [tuple(led(number, row)) for number, row in enumerate(rows)])


TOP = WIDE - 1
HALF = WIDE // 2
# By sign: (one, other, the value).
TOLD = {
    "+": ((0, 0, 0), (0, 1, 1), (2, 3, 5), (TOP, 0, TOP), (0, TOP, TOP), (TOP, 1, 0), (1, TOP, 0), (TOP, TOP, WIDE - 2),
          (HALF, HALF, 0), (HALF, HALF - 1, TOP), (TOP, 2, 1)),
    "-": ((0, 0, 0), (1, 0, 1), (0, 1, TOP), (5, 3, 2), (3, 5, WIDE - 2), (TOP, TOP, 0), (0, TOP, 1), (1, TOP, 2),
          (TOP, 1, WIDE - 2), (HALF, TOP, HALF + 1), (7, 7, 0)),
    "*": ((0, 0, 0), (0, TOP, 0), (1, TOP, TOP), (TOP, 1, TOP), (6, 7, 42), (TOP, TOP, 1), (TOP, 2, WIDE - 2),
          (HALF, 2, 0), (HALF, 3, HALF), (2 ** 20, 2 ** 20, 0), (2 ** 20, 2 ** 20 + 1, 2 ** 20), (2 ** 20, 2 ** 19, HALF)),
    "<": ((0, 0, 0), (0, 1, 1), (1, 0, 0), (5, 5, 0), (5, 6, 1), (6, 5, 0), (TOP, TOP, 0), (TOP, 0, 0), (0, TOP, 1),
          (TOP - 1, TOP, 1), (TOP, TOP - 1, 0), (9, 10, 1), (10, 9, 0)),
    "=": ((0, 0, 1), (0, 1, 0), (1, 0, 0), (5, 5, 1), (5, 6, 0), (TOP, TOP, 1), (TOP, 0, 0), (0, TOP, 0), (HALF, HALF, 1)),
    "&": ((0, 0, 0), (1, 0, 0), (1, 1, 1), (12, 10, 8), (TOP, TOP, TOP), (TOP, 0, 0), (TOP, 77, 77), (HALF, HALF - 1, 0)),
    "|": ((0, 0, 0), (1, 0, 1), (1, 1, 1), (12, 10, 14), (TOP, TOP, TOP), (TOP, 0, TOP), (0, 77, 77), (HALF, HALF - 1, TOP)),
    "^": ((0, 0, 0), (1, 0, 1), (1, 1, 0), (12, 10, 6), (TOP, TOP, 0), (TOP, 0, TOP), (TOP, 1, WIDE - 2),
          (HALF, HALF - 1, TOP), (77, 77, 0)),
}


def by_bits(sign, one, other):
    """The value of a sign of bits, bit by bit."""
    wanted = {"&": (2,), "|": (1, 2), "^": (1,)}[sign]
    return sum(2 ** bit for bit in range(40) if one // 2 ** bit % 2 + other // 2 ** bit % 2 in wanted)


class Values(unittest.TestCase):
    def check(self, sign, one, other, expected):
        found = value(sign, one, other)
        self.assertEqual(found, expected, (sign, one, other))
        self.assertIs(type(found), int)

    def test_each_sign(self):
        self.assertEqual(set(TOLD), set(SIGNS))
        for sign, cases in TOLD.items():
            for one, other, expected in cases:
                self.check(sign, one, other, expected)

    def test_always_a_value(self):
        chance = random.Random(5)
        some = [0, 1, 2, TOP, TOP - 1, HALF, HALF - 1, HALF + 1] + [chance.randrange(WIDE) for turn in range(40)]
        for one in some:
            for other in some:
                for sign in SIGNS:
                    found = value(sign, one, other)
                    self.assertIs(type(found), int)
                    self.assertTrue(0 <= found < WIDE, (sign, one, other))
                    self.assertEqual(value(sign, one, other), found)

    def test_sums_differences_and_products_by_their_rest(self):
        chance = random.Random(6)
        for turn in range(500):
            one, other = chance.randrange(WIDE), chance.randrange(WIDE)
            self.check("+", one, other, one + other if one + other < WIDE else one + other - WIDE)
            self.check("-", one, other, one - other if one >= other else one - other + WIDE)
            self.check("*", one, other, divmod(one * other, WIDE)[1])

    def test_bits(self):
        chance = random.Random(7)
        for turn in range(200):
            one, other = chance.randrange(WIDE), chance.randrange(WIDE)
            for sign in "&|^":
                self.check(sign, one, other, by_bits(sign, one, other))


if __name__ == "__main__":
    unittest.main()
