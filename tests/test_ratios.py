import math
import random
import unittest
from fractions import Fraction

from helmsum.errors import NoNumber
from helmsum.ratios import is_number, is_whole, minus, number, parted, plus, times, under

from helping import NO_NUMBERS, STRANGE, check_number, told_as, value


class WholeOfItsOwn(int):
    pass


def long_whole(chance, figures):
    whole = chance.randint(10 ** (figures - 1), 10 ** figures - 1)
    return whole if chance.randrange(2) else -whole


def long_numbers(chance, many):
    """Numbers of up to 60 figures above and below, of either sign, 0 and whole ones among them."""
    made = [(0, 1), (1, 1), (-1, 1), (10 ** 59, 1), (-1, 10 ** 60 - 1), (10 ** 60 - 1, 10 ** 59)]
    while len(made) < many:
        top = long_whole(chance, chance.choice([1, 2, 30, 59, 60]))
        bottom = abs(long_whole(chance, chance.choice([1, 2, 30, 59, 60])))
        made.append(told_as(Fraction(top, bottom)))
    return made


class WhatIsAWholeNumber(unittest.TestCase):
    def test_whole_numbers(self):
        for thing in [0, 1, -1, 10 ** 61, -(10 ** 61), 10 ** 5000, WholeOfItsOwn(3)]:
            self.assertIs(is_whole(thing), True)

    def test_others(self):
        for thing in STRANGE:
            expected = type(thing) is int
            self.assertIs(is_whole(thing), expected, repr(thing))


class WhatIsANumber(unittest.TestCase):
    def test_numbers(self):
        for thing in [(0, 1), (1, 1), (-1, 1), (1, 2), (-7, 3), (10 ** 60, 10 ** 60 - 1), (1, 10 ** 61)]:
            self.assertIs(is_number(thing), True, repr(thing))

    def test_others(self):
        for thing in NO_NUMBERS:
            self.assertIs(is_number(thing), False, repr(thing))
        for thing in STRANGE:
            self.assertIs(is_number(thing), thing == (1, 1), repr(thing))

    def test_a_great_common_divisor(self):
        great = 10 ** 30 + 57
        self.assertIs(is_number((great * 2, great * 3)), False)
        self.assertIs(is_number((-great, great)), False)
        self.assertIs(is_number((great, 1)), True)

    def test_all_small_pairs(self):
        for top in range(-13, 14):
            for bottom in range(-13, 14):
                expected = bottom >= 1 and math.gcd(top, bottom) == 1
                self.assertIs(is_number((top, bottom)), expected)


class Making(unittest.TestCase):
    def test_all_small_pairs(self):
        for top in range(-13, 14):
            for bottom in range(-13, 14):
                if bottom != 0:
                    made = number(top, bottom)
                    check_number(self, made)
                    self.assertEqual(made, told_as(Fraction(top, bottom)))

    def test_long_ones(self):
        chance = random.Random(1)
        for turn in range(200):
            common = long_whole(chance, 20)
            top = long_whole(chance, 40) * common
            bottom = long_whole(chance, 40) * common
            made = number(top, bottom)
            check_number(self, made)
            self.assertEqual(made, told_as(Fraction(top, bottom)))

    def test_nought(self):
        for bottom in [1, -1, 5, -5, 10 ** 60, -(10 ** 60)]:
            self.assertEqual(number(0, bottom), (0, 1))

    def test_what_is_no_whole_number_is_refused(self):
        for thing in STRANGE:
            if type(thing) is not int:
                for pair in [(thing, 1), (1, thing), (thing, thing), (thing, 0), (0, thing)]:
                    with self.assertRaises(NoNumber):
                        number(*pair)

    def test_a_bottom_of_nought_is_refused(self):
        for top in [0, 1, -1, 10 ** 60]:
            with self.assertRaises(NoNumber):
                number(top, 0)

    def test_what_was_refused_is_taken_once_it_is_right(self):
        with self.assertRaises(NoNumber):
            number(4, 0)
        self.assertEqual(number(4, -6), (-2, 3))


class Reckoning(unittest.TestCase):
    def check(self, told, expected):
        check_number(self, told)
        self.assertEqual(told, told_as(expected))

    def test_by_hand(self):
        self.assertEqual(plus((1, 2), (1, 3)), (5, 6))
        self.assertEqual(plus((1, 2), (-1, 2)), (0, 1))
        self.assertEqual(plus((1, 6), (1, 3)), (1, 2))
        self.assertEqual(minus((1, 2), (1, 3)), (1, 6))
        self.assertEqual(minus((1, 3), (1, 2)), (-1, 6))
        self.assertEqual(times((2, 3), (-3, 4)), (-1, 2))
        self.assertEqual(parted((1, 2), (-3, 4)), (-2, 3))
        self.assertEqual(parted((0, 1), (-3, 4)), (0, 1))

    def test_long_ones_by_each_other(self):
        made = long_numbers(random.Random(2), 40)
        for one in made:
            for other in made:
                self.check(plus(one, other), value(one) + value(other))
                self.check(minus(one, other), value(one) - value(other))
                self.check(times(one, other), value(one) * value(other))
                self.assertIs(under(one, other), value(one) < value(other))
                if other != (0, 1):
                    self.check(parted(one, other), value(one) / value(other))

    def test_parted_by_nought_is_refused(self):
        for one in long_numbers(random.Random(3), 20):
            with self.assertRaises(NoNumber):
                parted(one, (0, 1))

    def test_under_of_near_numbers(self):
        great = 10 ** 59
        self.assertIs(under((great - 1, great), (great, great + 1)), True)
        self.assertIs(under((great, great + 1), (great - 1, great)), False)
        self.assertIs(under((great - 1, great), (great - 1, great)), False)
        self.assertIs(under((-great, great + 1), (1 - great, great)), True)
        self.assertIs(under((-1, 1), (0, 1)), True)
        self.assertIs(under((0, 1), (-1, great)), False)


if __name__ == "__main__":
    unittest.main()
