"""Points 5 and 6: rules, their limit, and windows and shares behind what is heard."""

import random
import unittest

import drawn
import plain
from anything import Awkward, deep, spoiled, things
from swellways.rules import begun_by, heard_by, is_rule, limit_of

RULES = (
    ("still", (5, 2)),
    ("step", (2, 1), (1, 2), (1, 2), (10, 1)),
    ("swell", (2, 1), (3, 2), (1, 2), (10, 1)),
    ("heed", (2, 1), (1, 2), (1, 2), (10, 1)),
    ("calm", (2, 1), (1, 2), 1, 3, (10, 1)),
)
# A fraction that lies just beside a whole number.
TINY = 10 ** 6


def with_at(rule, place, part):
    return rule[:place] + (part,) + rule[place + 1:]


class IsRule(unittest.TestCase):
    def check(self, rule, right):
        self.assertIs(is_rule(rule), right, rule)

    def test_ordinary_ones(self):
        for rule in RULES:
            self.check(rule, True)

    def test_bounds_of_still(self):
        for first, right in (((1, 1), True), ((TINY - 1, TINY), False), ((60, 1), True),
                             ((60 * TINY + 1, TINY), False), ((0, 1), False), ((-1, 1), False), ((61, 1), False)):
            self.check(("still", first), right)

    def test_bounds_of_w(self):
        for rule in RULES[1:]:
            for first, right in (((1, 1), True), ((TINY - 1, TINY), False), ((10, 1), True), ((0, 1), False),
                                 ((10 * TINY + 1, TINY), False), ((-2, 1), False), ((60, 1), False)):
                self.check(with_at(rule, 1, first), right)

    def test_bounds_of_top(self):
        for rule in RULES[1:]:
            for top, right in (((2, 1), True), ((2 * TINY - 1, TINY), False), ((60, 1), True),
                               ((60 * TINY + 1, TINY), False), ((61, 1), False), ((0, 1), False), ((-9, 1), False)):
                self.check(with_at(rule, len(rule) - 1, top), right)
            self.check(with_at(with_at(rule, 1, (1, 1)), len(rule) - 1, (1, 1)), True)

    def test_bounds_of_up(self):
        for rule in (RULES[1], RULES[3], RULES[4]):
            for up, right in (((0, 1), False), ((1, TINY), True), ((-1, TINY), False), ((1, 1), True), ((60, 1), True),
                              ((60 * TINY + 1, TINY), False), ((61, 1), False)):
                self.check(with_at(rule, 2, up), right)

    def test_bounds_of_up_of_swell(self):
        for up, right in (((1, 1), False), ((TINY + 1, TINY), True), ((TINY - 1, TINY), False), ((60, 1), True),
                          ((60 * TINY + 1, TINY), False), ((0, 1), False), ((-2, 1), False)):
            self.check(with_at(RULES[2], 2, up), right)

    def test_bounds_of_down(self):
        for rule in RULES[1:3]:
            for down, right in (((0, 1), False), ((1, TINY), True), ((-1, TINY), False), ((TINY - 1, TINY), True),
                                ((1, 1), False), ((TINY + 1, TINY), False)):
                self.check(with_at(rule, 3, down), right)

    def test_bounds_of_gain(self):
        for gain, right in (((0, 1), False), ((1, TINY), True), ((-1, TINY), False), ((1, 1), True),
                            ((TINY + 1, TINY), False), ((2, 1), False)):
            self.check(with_at(RULES[3], 3, gain), right)

    def test_bounds_of_low_and_high(self):
        for low, high, right in ((0, 0, True), (-1, 0, False), (3, 3, True), (4, 3, False), (0, 60, True),
                                 (60, 60, True), (0, 61, False), (61, 61, False), (-2, -1, False)):
            self.check(("calm", (2, 1), (1, 2), low, high, (10, 1)), right)

    def test_low_and_high_are_no_fractions(self):
        self.check(with_at(RULES[4], 3, (1, 1)), False)
        self.check(with_at(RULES[4], 4, (3, 1)), False)
        self.check(with_at(with_at(RULES[4], 3, False), 4, True), False)

    def test_fractions_in_lowest_terms(self):
        for rule in RULES:
            for place, part in enumerate(rule):
                if isinstance(part, tuple):
                    for wrong in ((part[0] * 2, part[1] * 2), (-part[0], -part[1]), (part[0], 0), (0, 0),
                                  (part[0], True), [part[0], part[1]], part[0], float(part[0])):
                        self.check(with_at(rule, place, wrong), False)

    def test_words(self):
        for word in ("", "Step", "step ", "calmer", "stil", "heeds", "line"):
            for rule in RULES:
                self.check((word,) + rule[1:], False)
        self.check(("step",) + RULES[4][1:], False)
        self.check(("calm",) + RULES[1][1:], False)
        self.check(("still",) + RULES[1][1:], False)
        self.check(("step",) + RULES[0][1:], False)

    def test_one_more_or_fewer(self):
        for rule in RULES:
            for wrong in (rule + ((1, 1),), rule[:-1], rule[1:], rule + (None,), list(rule), (rule,)):
                self.check(wrong, False)

    def test_of_anything(self):
        for thing in things():
            self.assertIs(is_rule(thing), False)
        for rule in RULES:
            for path, thing in spoiled(rule):
                self.assertIs(is_rule(thing), False, (rule, path))
        for thing in (deep(tuple), ("step", deep(tuple), deep(list), None, deep(tuple)), (Awkward(),)):
            self.assertIs(is_rule(thing), False)

    def test_drawn_ones(self):
        source = random.Random(5)
        for turn in range(500):
            self.check(drawn.rule(source), True)


class Limit(unittest.TestCase):
    def test_floor_of_top(self):
        for top, limit in (((10, 1), 10), ((21, 2), 10), ((21, 10), 2), ((59, 30), 1), ((60, 1), 60)):
            for rule in RULES[1:]:
                rule = with_at(with_at(rule, 1, (1, 1)), len(rule) - 1, top)
                self.assertEqual(limit_of(rule), limit)

    def test_still(self):
        for first, limit in (((1, 1), 1), ((5, 2), 2), ((60, 1), 60), ((119, 2), 59)):
            self.assertEqual(limit_of(("still", first)), limit)


class Begun(unittest.TestCase):
    def test_w_cut_and_no_share(self):
        self.assertEqual(begun_by(("still", (5, 2)), 1), ((2, 1), (0, 1)))
        self.assertEqual(begun_by(("still", (5, 2)), 60), ((5, 2), (0, 1)))
        self.assertEqual(begun_by(("still", (15, 7)), 60), ((32, 15), (0, 1)))
        for rule in RULES[1:]:
            rule = with_at(rule, 1, (8, 3))
            self.assertEqual(begun_by(rule, 1), ((2, 1), (0, 1)))
            self.assertEqual(begun_by(rule, 2), ((5, 2), (0, 1)))
            self.assertEqual(begun_by(rule, 60), ((8, 3), (0, 1)))

    def test_drawn(self):
        source = random.Random(6)
        for turn in range(500):
            rule, grid = drawn.rule(source), drawn.grid(source)
            self.assertEqual(begun_by(rule, grid), (plain.pair_of(plain.cut(plain.of(rule[1]), grid)), (0, 1)))


class Heard(unittest.TestCase):
    def check(self, rule, grid, window, heard, told, share=(0, 1), then=None):
        self.assertEqual(heard_by(rule, grid, window, share, heard), (told, share if then is None else then))

    def test_nothing_heard_changes_nothing(self):
        for rule in RULES:
            for window in ((3, 1), (1, 1), (10, 1), (7, 2)):
                self.check(rule, 60, window, (0, 0, 0, 0), window, (1, 4))
                self.check(rule, 60, window, (0, 0, 0, 9), window, (1, 4))

    def test_nothing_ever_of_still(self):
        for heard in ((1, 0, 0, 0), (0, 1, 0, 3), (0, 0, 1, 0), (5, 5, 5, 50)):
            self.check(RULES[0], 2, (5, 2), heard, (5, 2), (1, 4))

    def test_step(self):
        rule = ("step", (2, 1), (1, 2), (2, 3), (10, 1))
        self.check(rule, 60, (3, 1), (1, 0, 0, 0), (7, 2))
        self.check(rule, 60, (3, 1), (9, 0, 0, 40), (7, 2))
        self.check(rule, 60, (3, 1), (0, 1, 0, 0), (2, 1))
        self.check(rule, 60, (3, 1), (9, 0, 1, 0), (2, 1))
        self.check(rule, 60, (4, 1), (1, 1, 1, 1), (8, 3), (1, 3))

    def test_swell(self):
        rule = ("swell", (2, 1), (3, 2), (2, 3), (10, 1))
        self.check(rule, 60, (3, 1), (1, 0, 0, 0), (9, 2))
        self.check(rule, 60, (3, 1), (0, 1, 0, 0), (2, 1))
        self.check(rule, 60, (3, 1), (9, 0, 1, 0), (2, 1))
        self.check(rule, 1, (3, 1), (1, 0, 0, 0), (4, 1), (1, 3))

    def test_heed(self):
        rule = ("heed", (2, 1), (1, 2), (1, 2), (10, 1))
        # 1/2 * 1/4 = 1/8, cut by 60 to 7/60; 4 * (1 - 7/120) = 113/30
        self.check(rule, 60, (4, 1), (3, 1, 0, 0), (113, 30), (0, 1), (7, 60))
        # cut by 8 it stays 1/8; 4 * (1 - 1/16) = 15/4
        self.check(rule, 8, (4, 1), (3, 1, 0, 0), (15, 4), (0, 1), (1, 8))
        # 1/2 + 1/2 * (0 - 1/2) = 1/4, and nothing bad was heard
        self.check(rule, 4, (4, 1), (3, 0, 0, 0), (9, 2), (1, 2), (1, 4))
        # all bad: 0 + 1/2 = 1/2; 4 * 3/4
        self.check(rule, 4, (4, 1), (0, 1, 1, 0), (3, 1), (0, 1), (1, 2))
        # with a grid of 1 a share of less than 1 is cut to 0
        self.check(rule, 1, (4, 1), (0, 2, 0, 0), (4, 1), (0, 1), (0, 1))
        # a gain of 1 takes the share at once
        self.check(("heed", (2, 1), (1, 2), (1, 1), (10, 1)), 1, (4, 1), (0, 0, 2, 0), (2, 1), (0, 1), (1, 1))

    def test_calm(self):
        rule = ("calm", (2, 1), (1, 2), 1, 3, (10, 1))
        self.check(rule, 60, (5, 1), (1, 0, 1, 0), (5, 2))
        self.check(rule, 60, (5, 1), (0, 0, 1, 9), (5, 2))
        self.check(rule, 60, (5, 1), (1, 0, 0, 0), (11, 2))
        self.check(rule, 60, (5, 1), (1, 0, 0, 1), (5, 1))
        self.check(rule, 60, (5, 1), (0, 4, 0, 3), (5, 1))
        self.check(rule, 60, (5, 1), (1, 0, 0, 4), (9, 2))
        # a mark alone is nothing bad
        self.check(rule, 60, (5, 1), (0, 4, 0, 0), (11, 2), (1, 3))
        # low of 0: no wait is below it
        rule = ("calm", (2, 1), (1, 2), 0, 0, (10, 1))
        self.check(rule, 60, (5, 1), (1, 0, 0, 0), (5, 1))
        self.check(rule, 60, (5, 1), (1, 0, 0, 1), (9, 2))

    def test_no_less_than_one(self):
        self.check(("step", (2, 1), (1, 2), (1, 3), (10, 1)), 60, (1, 1), (0, 1, 0, 0), (1, 1))
        self.check(("step", (2, 1), (1, 2), (1, 3), (10, 1)), 60, (2, 1), (0, 1, 0, 0), (1, 1))
        self.check(("swell", (2, 1), (3, 2), (1, 3), (10, 1)), 60, (5, 2), (0, 0, 1, 0), (1, 1))
        self.check(("heed", (2, 1), (1, 2), (1, 1), (10, 1)), 60, (3, 2), (0, 0, 1, 0), (1, 1), (0, 1), (1, 1))
        self.check(("calm", (2, 1), (5, 1), 0, 0, (10, 1)), 60, (3, 1), (1, 0, 0, 9), (1, 1))
        self.check(("calm", (2, 1), (5, 1), 0, 0, (10, 1)), 60, (1, 1), (0, 0, 1, 0), (1, 1))

    def test_no_greater_than_top_and_cut(self):
        top = (29, 4)
        for rule in (("step", (2, 1), (60, 1), (1, 3), top), ("swell", (2, 1), (60, 1), (1, 3), top),
                     ("heed", (2, 1), (60, 1), (1, 3), top), ("calm", (2, 1), (60, 1), 1, 1, top)):
            self.check(rule, 1, (7, 1), (1, 0, 0, 0), (7, 1))
            self.check(rule, 2, (7, 1), (1, 0, 0, 0), (7, 1))
            self.check(rule, 4, (29, 4), (1, 0, 0, 0), (29, 4))
            self.check(rule, 60, (1, 1), (1, 0, 0, 0), (29, 4))

    def test_cut_at_each_grid(self):
        rule = ("step", (2, 1), (1, 2), (1, 2), (10, 1))
        self.check(rule, 1, (3, 1), (1, 0, 0, 0), (3, 1))
        self.check(rule, 1, (3, 1), (0, 1, 0, 0), (1, 1))
        self.check(rule, 60, (61, 60), (1, 0, 0, 0), (91, 60))
        self.check(("step", (2, 1), (1, 7), (1, 2), (10, 1)), 60, (3, 1), (1, 0, 0, 0), (47, 15))

    def test_drawn(self):
        source = random.Random(7)
        for turn in range(2000):
            rule, grid = drawn.rule(source), drawn.grid(source)
            window, share = begun_by(rule, grid)
            first, second = plain.of(window), plain.of(share)
            for heard in drawn.row(source):
                window, share = heard_by(rule, grid, window, share, heard)
                first, second = plain.heard_by(rule, grid, first, second, heard)
                self.assertEqual((window, share), (plain.pair_of(first), plain.pair_of(second)), (rule, grid, heard))


if __name__ == "__main__":
    unittest.main()
