"""Points 21 and 3 (f): the even shares of a plan."""

import random
import unittest
from fractions import Fraction

import drawn
import plain
from swellways.evenlooks import fits, shows_even
from swellways.plans import is_plan
from swellways.shares import even
from test_bounds import plan_of, sender, way
from test_evenlooks import EVEN, MIXED, shares_of
from test_rounds import NARROW


class ByHand(unittest.TestCase):
    def check(self, plan, *rows):
        self.assertIs(is_plan(plan), True)
        before = repr(plan)
        told = even(plan)
        self.assertEqual(told, rows)
        self.assertEqual([type(part) for row in told for part in row], [str, tuple, str] * len(rows))
        self.assertEqual([type(row) for row in told] + [type(told)], [tuple] * (len(rows) + 1))
        self.assertIs(shows_even(plan, told), True)
        self.assertIs(fits(plan, shares_of(told)), True)
        self.assertEqual(repr(plan), before)

    def test_one_alone(self):
        self.check(plan_of([way(2, 9)], sender("a", 3, 2)), ("a", (3, 2), ""))
        self.check(plan_of([way(1, 9)], sender("a", 3, 2)), ("a", (1, 1), "w"))
        plan = plan_of([way(2, 9, name="p"), way(1, 9, name="q")], sender("a", 3, 1, ("p", "q")))
        self.check(plan, ("a", (1, 1), "q"))

    def test_several_on_one_way(self):
        self.check(plan_of([way(1, 9)], *[sender(name, 9, 1) for name in "abc"]),
                   ("a", (1, 3), "w"), ("b", (1, 3), "w"), ("c", (1, 3), "w"))
        self.check(plan_of([way(2, 9)], sender("a", 1, 4), sender("b", 3, 4), sender("c", 9, 1)),
                   ("a", (1, 4), ""), ("b", (3, 4), ""), ("c", (1, 1), "w"))
        self.check(plan_of([way(2, 9)], sender("a", 1, 4), sender("b", 7, 8), sender("c", 9, 1)),
                   ("a", (1, 4), ""), ("b", (7, 8), ""), ("c", (7, 8), "w"))

    def test_several_ways(self):
        self.check(MIXED, *EVEN)
        # What the first way leaves of its sender goes to the one beside it on the second.
        plan = plan_of([way(1, 9, name="p"), way(4, 9, name="q")], sender("a", 9, 1, ("p", "q")),
                       sender("b", 9, 1, ("p",)), sender("c", 9, 1, ("q",)))
        self.check(plan, ("a", (1, 2), "p"), ("b", (1, 2), "p"), ("c", (7, 2), "q"))

    def test_a_chain_of_ways(self):
        ways = [way(1, 9, name="p"), way(2, 9, name="q"), way(4, 9, name="r")]
        plan = plan_of(ways, sender("a", 9, 1, ("p", "q", "r")), sender("b", 9, 1, ("p",)),
                       sender("c", 9, 1, ("q", "r")), sender("d", 9, 1, ("r",)))
        self.check(plan, ("a", (1, 2), "p"), ("b", (1, 2), "p"), ("c", (3, 2), "q"), ("d", (2, 1), "r"))

    def test_a_limit_share_that_just_fills_a_way(self):
        self.check(plan_of([way(2, 9)], sender("a", 4, 2)), ("a", (2, 1), ""))
        self.check(plan_of([way(2, 9)], sender("a", 1, 1), sender("b", 8, 8)), ("a", (1, 1), ""), ("b", (1, 1), ""))
        self.check(plan_of([way(2, 9)], sender("a", 1, 1), sender("b", 9, 8)), ("a", (1, 1), ""), ("b", (1, 1), "w"))

    def test_two_ways_full_at_once(self):
        ways = [way(2, 9, name="z"), way(1, 9, name="y"), way(1, 9, name="x")]
        self.check(plan_of(ways, sender("a", 9, 1, ("z", "y", "x"))), ("a", (1, 1), "y"))
        self.check(plan_of(ways, sender("a", 9, 1, ("z", "x")), sender("b", 9, 1, ("z", "y"))),
                   ("a", (1, 1), "z"), ("b", (1, 1), "z"))
        # z is full, too, but b has more there than a.
        ways = [way(3, 9, name="z"), way(1, 9, name="y")]
        self.check(plan_of(ways, sender("a", 9, 1, ("z", "y")), sender("b", 9, 1, ("z",))),
                   ("a", (1, 1), "y"), ("b", (2, 1), "z"))

    def test_without_senders_and_a_way_on_no_road(self):
        self.check((1, NARROW[1], ()))
        self.check(plan_of([way(1, 9, name="p"), way(2, 9)], sender("a", 1, 1)), ("a", (1, 1), ""))

    def test_limits_of_rules(self):
        for rule, limit in ((("still", (11, 2)), 5), (("step", (1, 1), (1, 1), (1, 2), (23, 4)), 5),
                            (("calm", (3, 1), (1, 1), 1, 2, (4, 1)), 4)):
            plan = (7, (way(20, 60),), (("a", ("w",), 3, 9, 0, rule),))
            self.check(plan, ("a", (limit, 3), ""))


class Drawn(unittest.TestCase):
    def test_the_one_tuple(self):
        source = random.Random(73)
        seen = {}
        for turn in range(500):
            plan = source.choice([drawn.plan, drawn.calm_plan])(source)
            table = even(plan)
            shares = plain.even(plan)
            self.assertEqual({row[0]: plain.of(row[1]) for row in table}, shares, plan)
            self.assertEqual([row[0] for row in table], [one[0] for one in plan[2]])
            self.assertIs(shows_even(plan, table), True)
            self.assertIs(fits(plan, shares_of(table)), True)
            self.assertIs(plain.fit(plan, shares), True)
            for name, share, why in table:
                whys = plain.whys(plan, shares, name)
                self.assertEqual(why, whys[0], plan)
                kind = (why == "", len(whys) > 1)
                seen[kind] = seen.get(kind, 0) + 1
        self.assertEqual(len(seen), 4, seen)
        self.assertGreater(min(seen.values()), 5, seen)

    def test_nobody_could_have_more_unless_one_that_has_no_more_had_less(self):
        source = random.Random(74)
        for turn in range(200):
            plan = drawn.plan(source)
            shares = {row[0]: plain.of(row[1]) for row in even(plan)}
            for name in shares:
                # All those that have more are taken down to nought, yet there is no room for the least bit.
                other = {one: part if part <= shares[name] else Fraction(0) for one, part in shares.items()}
                self.assertIs(plain.fit(plan, other), True)
                other[name] += Fraction(1, 10 ** 9)
                self.assertIs(plain.fit(plan, other), False, (plan, name))


if __name__ == "__main__":
    unittest.main()
