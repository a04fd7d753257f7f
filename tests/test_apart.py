"""Points 7 and 8, and 3 (e) of rules: how far windows come apart, and gentler rules."""

import math
import random
import unittest
from fractions import Fraction

import drawn
import plain
from swellways.apart import apart, gentler
from swellways.fractions import less, minus, times
from swellways.rules import begun_by, heard_by

GOOD = (1, 0, 0, 0)
MARK = (0, 1, 0, 0)
LOSS = (0, 0, 1, 0)
NOTHING = (0, 0, 0, 0)
STEP = ("step", (2, 1), (1, 2), (2, 3), (10, 1))
SWELL = ("swell", (2, 1), (3, 2), (2, 3), (10, 1))
HEED = ("heed", (2, 1), (1, 2), (1, 2), (10, 1))
CALM = ("calm", (2, 1), (1, 2), 1, 3, (10, 1))


def plain_apart(rule, grid, share, far, row):
    """Point 7 told once more."""
    share = plain.of(share)
    most = (plain.cut(plain.top_of(rule), grid) - 1) * grid
    for heard in row:
        if any(heard[:3]) and rule[0] != "still":
            window, share, by = plain.wanted(rule, grid, Fraction(1), share, heard)
            far = min(far if by is None else math.ceil(far * by), most)
    return far


class Apart(unittest.TestCase):
    def test_nothing_heard(self):
        for rule in (STEP, SWELL, HEED, CALM, ("still", (3, 1))):
            for far in (0, 1, 7, 10 ** 6):
                self.assertEqual(apart(rule, 4, (0, 1), far, []), far)
                self.assertEqual(apart(rule, 4, (0, 1), far, [NOTHING, NOTHING, (0, 0, 0, 9)]), far)

    def test_still_stays(self):
        self.assertEqual(apart(("still", (3, 1)), 1, (0, 1), 1000, [GOOD, MARK, LOSS]), 1000)

    def test_step(self):
        self.assertEqual(apart(STEP, 4, (0, 1), 7, [GOOD]), 7)
        self.assertEqual(apart(STEP, 4, (0, 1), 7, [MARK]), 5)
        self.assertEqual(apart(STEP, 4, (0, 1), 7, [LOSS, GOOD, MARK]), 4)
        self.assertEqual(apart(STEP, 4, (0, 1), 1, [LOSS, LOSS]), 1)
        self.assertEqual(apart(STEP, 4, (0, 1), 0, [LOSS, GOOD]), 0)

    def test_swell(self):
        self.assertEqual(apart(SWELL, 4, (0, 1), 7, [GOOD]), 11)
        self.assertEqual(apart(SWELL, 4, (0, 1), 7, [GOOD, MARK]), 8)
        self.assertEqual(apart(SWELL, 4, (0, 1), 30, [GOOD]), 36)

    def test_heed(self):
        # the share becomes 1/2, then 3/4: 8 * 3/4 = 6, 6 * 5/8 = 15/4
        self.assertEqual(apart(HEED, 4, (0, 1), 8, [MARK]), 6)
        self.assertEqual(apart(HEED, 4, (0, 1), 8, [MARK, LOSS]), 4)
        self.assertEqual(apart(HEED, 4, (1, 2), 8, [LOSS]), 5)
        # good news lets the share sink to 1/4 first; then 1/4 + 1/2 * 3/4 is cut to 1/2
        self.assertEqual(apart(HEED, 4, (1, 2), 8, [GOOD, LOSS]), 6)
        # where the grid of 1 cuts the share to 0 nothing is multiplied away
        self.assertEqual(apart(HEED, 1, (0, 1), 8, [LOSS]), 8)

    def test_calm(self):
        self.assertEqual(apart(CALM, 4, (0, 1), 7, [LOSS]), 4)
        self.assertEqual(apart(CALM, 4, (0, 1), 7, [MARK, GOOD, (1, 0, 0, 9), (1, 0, 0, 2)]), 7)

    def test_no_more_than_from_one_to_the_cut_of_top(self):
        top = (29, 4)
        for rule in (STEP[:4] + (top,), SWELL[:4] + (top,), HEED[:4] + (top,), CALM[:5] + (top,)):
            for grid, most in ((1, 6), (2, 12), (4, 25), (3, 18), (60, 375)):
                self.assertEqual(apart(rule, grid, (0, 1), 10 ** 6, [GOOD]), most)
                self.assertEqual(apart(rule, grid, (0, 1), most + 1, [NOTHING, GOOD]), most)
                self.assertEqual(apart(rule, grid, (0, 1), 10 ** 6, [(1, 0, 1, 0)]), most)

    def test_row_is_not_changed(self):
        row = [GOOD, LOSS, NOTHING]
        apart(HEED, 4, (0, 1), 8, row)
        self.assertEqual(row, [GOOD, LOSS, NOTHING])

    def test_drawn(self):
        source = random.Random(8)
        for turn in range(2000):
            rule, grid, row = drawn.rule(source), drawn.grid(source), drawn.row(source)
            share = plain.pair_of(plain.cut(Fraction(source.randint(0, 12), 12), grid))
            far = source.choice([0, 1, 2, 5, source.randint(0, 4000)])
            self.assertEqual(apart(rule, grid, share, far, row), plain_apart(rule, grid, share, far, row))

    def test_windows_come_no_farther_apart(self):
        source = random.Random(9)
        for turn in range(2000):
            rule, grid, row = drawn.rule(source), drawn.grid(source), drawn.row(source)
            share = plain.pair_of(plain.cut(Fraction(source.randint(0, 12), 12), grid))
            one = plain.pair_of(plain.cut(plain.of(drawn.at_least_one(source, rule[-1])), grid))
            other = plain.pair_of(plain.cut(plain.of(drawn.at_least_one(source, rule[-1])), grid))
            far = abs(times(minus(one, other), (grid, 1))[0])
            first = second = share
            for count, heard in enumerate(row):
                one, first = heard_by(rule, grid, one, first, heard)
                other, second = heard_by(rule, grid, other, second, heard)
                self.assertEqual(first, second)
                between = times(minus(one, other), (grid, 1))
                self.assertEqual(between[1], 1)
                self.assertLessEqual(abs(between[0]), apart(rule, grid, share, far, row[:count + 1]))


class Gentler(unittest.TestCase):
    def test_each_is_gentler_than_itself(self):
        for rule in (("still", (3, 1)), STEP, SWELL, HEED, CALM):
            self.assertIs(gentler(rule, rule), True)

    def test_unlike_words(self):
        rules = (("still", (1, 1)), STEP, SWELL, HEED, CALM)
        for one in rules:
            for other in rules:
                self.assertIs(gentler(one, other), one == other)
        self.assertIs(gentler(("step",) + SWELL[1:], SWELL), False)

    def test_at_most_in_each_place(self):
        less_there = {
            ("still", (3, 1)): {1: (2, 1)},
            STEP: {1: (1, 1), 2: (1, 3), 3: (1, 2), 4: (9, 1)},
            SWELL: {1: (1, 1), 2: (4, 3), 3: (1, 2), 4: (9, 1)},
            HEED: {1: (1, 1), 2: (1, 3), 4: (9, 1)},
            CALM: {1: (1, 1), 5: (9, 1)},
        }
        for rule, places in less_there.items():
            for place, part in places.items():
                other = rule[:place] + (part,) + rule[place + 1:]
                self.assertIs(gentler(other, rule), True, (other, rule))
                self.assertIs(gentler(rule, other), False, (rule, other))

    def test_the_same_in_the_others(self):
        for rule, place, part in ((HEED, 3, (1, 3)), (HEED, 3, (1, 1)), (CALM, 2, (1, 3)), (CALM, 2, (1, 1)),
                                  (CALM, 3, 0), (CALM, 3, 2), (CALM, 4, 2), (CALM, 4, 4)):
            other = rule[:place] + (part,) + rule[place + 1:]
            self.assertIs(gentler(other, rule), False)
            self.assertIs(gentler(rule, other), False)

    def test_one_less_and_one_greater(self):
        one = ("step", (1, 1), (3, 2), (2, 3), (10, 1))
        self.assertIs(gentler(one, STEP), False)
        self.assertIs(gentler(STEP, one), False)

    def test_a_gentler_rule_never_has_the_greater_window(self):
        source = random.Random(10)
        for turn in range(3000):
            rule, grid, row = drawn.rule(source), drawn.grid(source), drawn.row(source)
            mild = drawn.gentler_rule(source, rule)
            self.assertIs(gentler(mild, rule), True, (mild, rule))
            one, first = begun_by(mild, grid)
            other, second = begun_by(rule, grid)
            self.assertIs(less(other, one), False)
            for heard in row:
                one, first = heard_by(mild, grid, one, first, heard)
                other, second = heard_by(rule, grid, other, second, heard)
                self.assertIs(less(other, one), False, (mild, rule, grid, row))

    def test_rules_told_gentler_among_drawn_ones(self):
        source = random.Random(11)
        found = 0
        for turn in range(3000):
            word, grid = source.choice(drawn.WORDS), drawn.grid(source)
            rule, other = drawn.rule(source, word, 5), drawn.rule(source, word, 9)
            if gentler(rule, other):
                found += 1
                one, two = begun_by(rule, grid), begun_by(other, grid)
                for heard in drawn.row(source):
                    one = heard_by(rule, grid, one[0], one[1], heard)
                    two = heard_by(other, grid, two[0], two[1], heard)
                    self.assertIs(less(two[0], one[0]), False)
        self.assertGreater(found, 100)


if __name__ == "__main__":
    unittest.main()
