"""Points 21 (its last sentence) and 3 (f): what is taken per round at rest."""

import random
import unittest
from fractions import Fraction

import drawn
import plain
from swellways.again import again
from swellways.evenlooks import fits
from swellways.rests import rest
from test_again import FOURS, idle
from test_bounds import plan_of, way
from test_rounds import NARROW, SHARED


class Rest(unittest.TestCase):
    def check(self, plan, found, *rows):
        before = repr((plan, found))
        told = rest(plan, found)
        self.assertEqual(told, rows)
        self.assertEqual([type(row) for row in told] + [type(told)], [tuple] * (len(rows) + 1))
        self.assertEqual([type(row[1]) for row in told], [tuple] * len(rows))
        self.assertIs(fits(plan, told), True)
        self.assertEqual(repr((plan, found)), before)

    def test_by_hand(self):
        # Four letters in three rounds.
        self.check(FOURS, (1, 4), ("a", (4, 3)))
        # All four letters were taken long ago.
        self.check(NARROW, (7, 9), ("a", (0, 1)))
        self.check(idle(3, 5), again(idle(3, 5), 99), ("a", (0, 1)))
        self.check((1, NARROW[1], ()), (0, 1))

    def test_several_senders(self):
        # p lets out one by turns, so a and b have one of two rounds; q takes a's one and one or two of c's.
        found = again(SHARED, 99)
        self.assertEqual(found[1] - found[0], 2)
        self.check(SHARED, found, ("a", (1, 2)), ("b", (1, 2)), ("c", (3, 2)))

    def test_what_was_taken_ahead_of_s_does_not_count(self):
        plan = plan_of([way(1, 9)], ("a", ("w",), 1, 0, 9, ("still", (9, 1))),
                       ("b", ("w",), 2, 30, None, ("still", (1, 1))))
        found = again(plan, 99)
        self.assertGreater(found[0], 9)
        self.check(plan, found, ("a", (0, 1)), ("b", (1, 2)))

    def test_lost_letters_are_not_taken(self):
        # Three are sent each round, and one of them is taken.
        plan = plan_of([way(1, 1)], ("a", ("w",), 1, 0, None, ("still", (3, 1))))
        found = again(plan, 99)
        self.check(plan, found, ("a", (1, 1)))

    def test_any_s_and_t(self):
        for s, t in ((1, 4), (2, 5), (1, 7), (30, 60)):
            self.check(FOURS, (s, t), ("a", (4, 3)))

    def test_drawn(self):
        source = random.Random(80)
        looked = 0
        for turn in range(250):
            plan = source.choice([drawn.plan, drawn.calm_plan])(source)
            found = again(plan, 60)
            if found is None:
                continue
            looked += 1
            s, t = found
            told = rest(plan, found)
            walked = plain.walked(plan, t)
            rows = [(one[0], plain.pair_of(Fraction(other[2] - one[2], t - s)))
                    for one, other in zip(walked[s][1], walked[t][1])]
            self.assertEqual(told, tuple(rows))
            self.assertIs(fits(plan, told), True, plan)
            self.assertIs(plain.fit(plan, {name: plain.of(share) for name, share in told}), True, plan)
        self.assertGreater(looked, 80)


if __name__ == "__main__":
    unittest.main()
