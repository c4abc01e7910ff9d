"""Hand."""

import itertools
import random
import unittest

from dimhouse.hand import Hand
from dimhouse.words import WIDE


def hand_of(*letters):
    """A hand that took these pairs (number, letter), in this order."""
    hand = Hand()
    for number, letter in letters:
        hand.take(number, letter)
    return hand


class Kept(unittest.TestCase):
    def check(self, letters, kept, torn=False):
        hand = hand_of(*letters)
        self.assertEqual((hand.kept(), hand.torn()), (kept, torn))

    def test_at_the_begin(self):
        self.check((), [])

    def test_in_order(self):
        self.check(((0, 7),), [7])
        self.check(((0, 7), (1, 0), (2, WIDE - 1)), [7, 0, WIDE - 1])

    def test_out_of_order(self):
        for order in itertools.permutations(((0, 5), (1, 0), (2, 9), (3, 5))):
            self.check(order, [5, 0, 9, 5])

    def test_up_to_the_first_that_lacks(self):
        self.check(((1, 5),), [])
        self.check(((2, 9), (0, 5)), [5])
        self.check(((0, 5), (1, 6), (3, 8), (4, 9)), [5, 6])
        self.check(((0, 5), (1, 6), (3, 8), (4, 9), (2, 7)), [5, 6, 7, 8, 9])
        self.check(((3, 8), (1, 6)), [])

    def test_great_numbers(self):
        self.check(((10 ** 18, 1),), [])
        self.check(((10 ** 18, 1), (0, 2), (10 ** 18, 1)), [2])
        self.check(((10 ** 18, 1), (0, 2), (10 ** 18, 3)), [2], True)
        self.check(((10 ** 18, 1), (10 ** 18 - 1, 2)), [])

    def test_a_hundred_letters(self):
        self.check([(number, number * number) for number in range(100)], [number * number for number in range(100)])
        self.check([(number, number) for number in range(99, -1, -1)], list(range(100)))

    def test_any_letters(self):
        chance = random.Random(70)
        for turn in range(300):
            letters = [(chance.randrange(6), chance.randrange(2)) for letter in range(chance.randint(0, 8))]
            first = {number: letter for number, letter in reversed(letters)}
            lacking = min(set(range(7)) - set(first))
            torn = any(first[number] != letter for number, letter in letters)
            self.check(letters, [first[number] for number in range(lacking)], torn)


class Torn(unittest.TestCase):
    def test_the_same_letter_twice(self):
        hand = hand_of((0, 7), (0, 7), (1, 0), (1, 0), (0, 7))
        self.assertEqual((hand.kept(), hand.torn()), ([7, 0], False))

    def test_the_same_letter_by_two_numbers(self):
        hand = hand_of((0, 7), (1, 7))
        self.assertEqual((hand.kept(), hand.torn()), ([7, 7], False))

    def test_an_unlike_letter_and_then_the_first_again(self):
        hand = hand_of((0, 7), (1, 5))
        self.assertFalse(hand.torn())
        for letter in (8, 7, 7, 8):
            hand.take(0, letter)
            self.assertEqual((hand.kept(), hand.torn()), ([7, 5], True))
        hand.take(2, 6)
        self.assertEqual((hand.kept(), hand.torn()), ([7, 5, 6], True))

    def test_a_first_letter_of_0_is_one(self):
        hand = hand_of((0, 0), (0, 3))
        self.assertEqual((hand.kept(), hand.torn()), ([0], True))

    def test_by_a_number_that_is_not_told_yet(self):
        hand = hand_of((3, 1), (3, 2))
        self.assertEqual((hand.kept(), hand.torn()), ([], True))


class Same(unittest.TestCase):
    def test_take_tells_none(self):
        hand = Hand()
        self.assertEqual([hand.take(0, 1), hand.take(0, 1), hand.take(0, 2), hand.take(10 ** 18, 0)], [None] * 4)

    def test_kinds_of_what_is_told(self):
        hand = hand_of((0, 7))
        self.assertEqual((type(hand.kept()), type(hand.kept()[0])), (list, int))
        self.assertIs(hand.torn(), False)
        hand.take(0, 8)
        self.assertIs(hand.torn(), True)

    def test_the_list_is_the_askers_own(self):
        hand = hand_of((0, 7), (1, 5))
        for change in (list.clear, lambda told: told.append(9), lambda told: told.insert(0, 9)):
            change(hand.kept())
        self.assertEqual(hand.kept(), [7, 5])
        kept = hand.kept()
        hand.take(2, 6)
        self.assertEqual((kept, hand.kept(), hand.kept()), ([7, 5], [7, 5, 6], [7, 5, 6]))

    def test_two_hands_in_turn(self):
        one, other = Hand(), Hand()
        one.take(0, 1)
        other.take(0, 2)
        other.take(1, 3)
        one.take(0, 4)
        self.assertEqual((one.kept(), one.torn()), ([1], True))
        self.assertEqual((other.kept(), other.torn()), ([2, 3], False))
        third = Hand()
        self.assertEqual((third.kept(), third.torn()), ([], False))


if __name__ == "__main__":
    unittest.main()
