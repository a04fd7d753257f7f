"""Points 2 and 4: whole numbers, names and fractions."""

import random
import unittest
from fractions import Fraction
from math import ceil, floor, gcd

from anything import Awkward, deep, spoiled, things
from swellways.fractions import (
    ceil_of, cut_by, floor_of, is_fraction, is_name, less, minus, over, part, plus, times)


def drawn(source):
    number = Fraction(source.randint(-50, 50), source.randint(1, 24))
    return (number.numerator, number.denominator)


class IsName(unittest.TestCase):
    def test_names(self):
        for name in ("a", "z", "bob", "abcdefgh", "zzzzzzzz", "still", "none"):
            self.assertIs(is_name(name), True, name)

    def test_texts_that_are_none(self):
        for text in ("", "abcdefghi", "A", "Bob", "boB", "a b", " a", "a ", "a\n", "\n", "a1", "1", "a_", "a-b",
                     "`", "{", "@", "[", "~"):
            self.assertIs(is_name(text), False, repr(text))

    def test_of_anything(self):
        for thing in things():
            if not isinstance(thing, str):
                self.assertIs(is_name(thing), False)
        for thing in (["a"], ("a",), {"a": 1}, b"a", 97, deep(list), Awkward()):
            self.assertIs(is_name(thing), False)


class IsFraction(unittest.TestCase):
    def test_fractions(self):
        for pair in ((0, 1), (1, 1), (-1, 1), (3, 2), (-3, 2), (60, 1), (1, 60), (999999999, 999999998)):
            self.assertIs(is_fraction(pair), True, pair)

    def test_not_in_lowest_terms(self):
        for pair in ((0, 2), (2, 2), (6, 4), (-6, 4), (-2, 2), (60, 60), (0, 7)):
            self.assertIs(is_fraction(pair), False, pair)

    def test_bottom_of_nought_or_below(self):
        for pair in ((1, 0), (0, 0), (-1, 0), (1, -1), (0, -1), (-3, -2), (3, -2)):
            self.assertIs(is_fraction(pair), False, pair)

    def test_truths_are_no_numbers(self):
        for pair in ((True, 1), (1, True), (False, 1), (True, True), (True, 2), (3, False)):
            self.assertIs(is_fraction(pair), False, pair)

    def test_other_kinds(self):
        for thing in ([3, 2], (3,), (3, 2, 1), (), "3/2", (3.0, 2), (3, 2.0), ("3", 2), (3, None), (None, 2), 3, 1.5,
                      Fraction(3, 2), ((3, 2),), {3: 2}, {3, 2}, deep(tuple), (deep(tuple), 1), (1, deep(list)),
                      (Awkward(), 1), (1, Awkward())):
            self.assertIs(is_fraction(thing), False)

    def test_of_anything(self):
        for thing in things():
            self.assertIs(is_fraction(thing), False)
        for path, thing in spoiled((3, 2)):
            self.assertIs(is_fraction(thing), False, path)

    def test_of_all_small_pairs(self):
        for top in range(-12, 13):
            for bottom in range(-12, 13):
                self.assertIs(is_fraction((top, bottom)), bottom > 0 and gcd(top, bottom) == 1)


class Reckoning(unittest.TestCase):
    def test_part(self):
        told = {(6, 4): (3, 2), (-6, 4): (-3, 2), (6, -4): (-3, 2), (-6, -4): (3, 2), (0, 5): (0, 1), (0, -5): (0, 1),
                (7, 1): (7, 1), (7, -1): (-7, 1), (1, 60): (1, 60), (60, 60): (1, 1)}
        for pair, fraction in told.items():
            self.assertEqual(part(*pair), fraction)

    def test_part_of_all_small_pairs(self):
        for top in range(-12, 13):
            for bottom in list(range(-12, 0)) + list(range(1, 13)):
                number = Fraction(top, bottom)
                self.assertEqual(part(top, bottom), (number.numerator, number.denominator))
                self.assertIs(is_fraction(part(top, bottom)), True)

    def test_by_hand(self):
        self.assertEqual(plus((1, 2), (1, 3)), (5, 6))
        self.assertEqual(plus((1, 2), (-1, 2)), (0, 1))
        self.assertEqual(minus((1, 2), (1, 3)), (1, 6))
        self.assertEqual(minus((1, 3), (1, 2)), (-1, 6))
        self.assertEqual(times((2, 3), (3, 4)), (1, 2))
        self.assertEqual(times((0, 1), (-3, 4)), (0, 1))
        self.assertEqual(over((1, 2), (3, 4)), (2, 3))
        self.assertEqual(over((1, 2), (-3, 4)), (-2, 3))
        self.assertEqual(over((0, 1), (-3, 4)), (0, 1))

    def test_less(self):
        self.assertIs(less((1, 3), (1, 2)), True)
        self.assertIs(less((1, 2), (1, 3)), False)
        self.assertIs(less((1, 2), (1, 2)), False)
        self.assertIs(less((-1, 2), (-1, 3)), True)
        self.assertIs(less((-1, 2), (0, 1)), True)

    def test_floor_and_ceil(self):
        told = {(7, 2): (3, 4), (-7, 2): (-4, -3), (4, 1): (4, 4), (-4, 1): (-4, -4), (0, 1): (0, 0),
                (1, 60): (0, 1), (-1, 60): (-1, 0)}
        for pair, (low, high) in told.items():
            self.assertEqual((floor_of(pair), ceil_of(pair)), (low, high))

    def test_cut(self):
        self.assertEqual(cut_by((7, 2), 1), (3, 1))
        self.assertEqual(cut_by((-7, 2), 1), (-4, 1))
        self.assertEqual(cut_by((7, 2), 2), (7, 2))
        self.assertEqual(cut_by((7, 3), 2), (2, 1))
        self.assertEqual(cut_by((8, 3), 2), (5, 2))
        self.assertEqual(cut_by((-7, 3), 2), (-5, 2))
        self.assertEqual(cut_by((1, 7), 60), (2, 15))
        self.assertEqual(cut_by((1, 60), 60), (1, 60))
        self.assertEqual(cut_by((1, 61), 60), (0, 1))
        self.assertEqual(cut_by((0, 1), 60), (0, 1))

    def test_drawn(self):
        source = random.Random(4)
        for turn in range(3000):
            one, other = drawn(source), drawn(source)
            first, second = Fraction(*one), Fraction(*other)
            for told, number in ((plus(one, other), first + second), (minus(one, other), first - second),
                                 (times(one, other), first * second)):
                self.assertEqual(told, (number.numerator, number.denominator))
            if second:
                number = first / second
                self.assertEqual(over(one, other), (number.numerator, number.denominator))
            self.assertIs(less(one, other), first < second)
            self.assertEqual((floor_of(one), ceil_of(one)), (floor(first), ceil(first)))
            grid = source.choice([1, 2, 3, 7, 60])
            number = Fraction(floor(first * grid), grid)
            self.assertEqual(cut_by(one, grid), (number.numerator, number.denominator))

    def test_what_was_told_may_be_handed_in_again(self):
        great = (10 ** 40 + 1, 10 ** 39)
        self.assertEqual(minus(plus(great, great), great), great)
        self.assertEqual(floor_of(great), 10)
        self.assertIs(less(great, plus(great, (1, 10 ** 50))), True)


if __name__ == "__main__":
    unittest.main()
