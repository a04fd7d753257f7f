"""Points 21 and 3 (f): whether shares fit, and the look at tables of even shares."""

import random
import unittest
from fractions import Fraction

import drawn
import plain
from anything import Awkward, changed, deep, spoiled, things
from swellways.evenlooks import fits, shows_even
from swellways.plans import is_plan
from swellways.shares import even
from test_bounds import plan_of, sender, way
from test_rounds import NARROW, SHARED

# One by its limit, two by the first way, one by what these leave of the second.
MIXED = plan_of(
    [way(3, 9, name="p"), way(5, 9, "turns", "q"), way(20, 9, name="r")],
    sender("a", 1, 2, ("p", "q")), sender("b", 9, 1, ("p", "q")), sender("c", 9, 2, ("p", "r")),
    sender("d", 60, 1, ("q", "r")))
EVEN = (("a", (1, 2), ""), ("b", (5, 4), "p"), ("c", (5, 4), "p"), ("d", (13, 4), "q"))


def shares_of(table):
    return tuple([row[:2] for row in table])


def with_whys(source, shares, plan):
    """The shares with whys that may stand, or drawn ones."""
    rows = []
    for name, share in shares:
        told = plain.whys(plan, {one: plain.of(part) for one, part in shares}, name)
        road = [one[1] for one in plan[2] if one[0] == name][0]
        rows.append((name, share, source.choice(told or ("",) + road)))
    return tuple(rows)


class Fits(unittest.TestCase):
    def check(self, plan, shares, right):
        self.assertIs(is_plan(plan), True)
        before = repr((plan, shares))
        self.assertIs(fits(plan, shares), right, shares)
        self.assertEqual(repr((plan, shares)), before)

    def test_limits(self):
        plan = plan_of([way(20, 9)], sender("a", 3, 2))
        for share, right in (((0, 1), True), ((1, 7), True), ((3, 2), True), ((1, 1), True), ((16, 11), True),
                             ((17, 11), False), ((2, 1), False), ((-1, 7), False), ((151, 100), False)):
            self.check(plan, (("a", share),), right)

    def test_paces(self):
        plan = plan_of([way(2, 9)], sender("a", 9, 1), sender("b", 9, 1))
        for one, other, right in (((1, 1), (1, 1), True), ((2, 1), (0, 1), True), ((0, 1), (0, 1), True),
                                  ((1, 3), (5, 3), True), ((1, 3), (17, 10), False), ((2, 1), (1, 99), False),
                                  ((9, 1), (0, 1), False)):
            self.check(plan, (("a", one), ("b", other)), right)

    def test_each_way_of_a_road(self):
        self.check(MIXED, shares_of(EVEN), True)
        # One of p and one of q too much.
        self.check(MIXED, (("a", (1, 2)), ("b", (5, 4)), ("c", (4, 3)), ("d", (13, 4))), False)
        self.check(MIXED, (("a", (1, 2)), ("b", (5, 4)), ("c", (5, 4)), ("d", (7, 2))), False)
        self.check(MIXED, (("a", (0, 1)), ("b", (1, 1)), ("c", (2, 1)), ("d", (4, 1))), True)
        self.check(MIXED, (("a", (0, 1)), ("b", (1, 1)), ("c", (2, 1)), ("d", (33, 8))), False)
        # A way on which nobody is.
        plan = plan_of([way(1, 1, name="p"), way(1, 9)], sender("a", 1, 1))
        self.check(plan, (("a", (1, 1)),), True)

    def test_without_senders(self):
        self.check((1, NARROW[1], ()), (), True)

    def test_drawn(self):
        source = random.Random(70)
        seen = {True: 0, False: 0}
        for turn in range(600):
            plan = drawn.plan(source)
            told = even(plan)
            by = source.choice([Fraction(0), Fraction(1, 2), Fraction(1), Fraction(101, 100), Fraction(2)])
            shares = {row[0]: plain.of(row[1]) * source.choice([by, by, 1]) for row in told}
            right = plain.fit(plan, shares)
            seen[right] += 1
            self.check(plan, tuple([(name, plain.pair_of(share)) for name, share in shares.items()]), right)
        self.assertGreater(min(seen.values()), 100, seen)


class Look(unittest.TestCase):
    def refused(self, plan, thing, words=None):
        before = repr((plan, thing))
        self.assertIs(shows_even(plan, thing), False, words)
        self.assertEqual(repr((plan, thing)), before)

    def taken(self, plan, table):
        self.assertIs(is_plan(plan), True)
        before = repr((plan, table))
        self.assertIs(shows_even(plan, table), True, table)
        self.assertEqual(repr((plan, table)), before)

    def tables(self):
        return [(plan, even(plan)) for plan in (MIXED, SHARED, NARROW)]

    def test_right_ones(self):
        self.taken(MIXED, EVEN)
        for plan, table in self.tables():
            self.taken(plan, table)
        self.taken((1, NARROW[1], ()), ())

    def test_any_why_that_may_be(self):
        # The limit share just fills a way, two ways full at once: all three may be told.
        plan = plan_of([way(2, 9, name="p"), way(2, 9, name="q"), way(3, 9, name="r")],
                       sender("a", 1, 1, ("p", "q", "r")), sender("b", 1, 1, ("p", "q")))
        for why in ("", "p", "q"):
            for other in ("", "p", "q"):
                self.taken(plan, (("a", (1, 1), why), ("b", (1, 1), other)))
            self.refused(plan, (("a", (1, 1), why), ("b", (1, 1), "r")))
            self.refused(plan, (("a", (1, 1), "r"), ("b", (1, 1), why)))

    def test_another_why(self):
        for place, whys in enumerate((("p", "q", "r"), ("", "q", "r"), ("", "q", "r"), ("", "p", "r"))):
            for why in whys + ("x", "a", "b", "-", " ", "P", "pp", None, 0, False, (), ("p",), ["p"], b"p", Awkward()):
                row = EVEN[place]
                self.refused(MIXED, EVEN[:place] + (row[:2] + (why,),) + EVEN[place + 1:], (place, why))

    def test_a_full_way_on_which_another_one_has_more(self):
        # q is full, but d has more there than a and b.
        self.refused(MIXED, EVEN[:1] + (("b", (5, 4), "q"),) + EVEN[2:])
        # p is full by a share that is not even.
        plan = plan_of([way(3, 9)], sender("a", 9, 1), sender("b", 9, 1))
        self.refused(plan, (("a", (1, 1), "w"), ("b", (2, 1), "w")))
        self.taken(plan, (("a", (3, 2), "w"), ("b", (3, 2), "w")))

    def test_a_full_way_that_is_not_on_the_road(self):
        plan = plan_of([way(1, 9, name="p"), way(1, 9, name="q")], sender("a", 2, 1, ("p",)), sender("b", 2, 1, ("q",)))
        self.taken(plan, (("a", (1, 1), "p"), ("b", (1, 1), "q")))
        self.refused(plan, (("a", (1, 1), "q"), ("b", (1, 1), "q")))
        self.refused(plan, (("a", (1, 1), "p"), ("b", (1, 1), "p")))

    def test_shares_that_do_not_fit(self):
        # Each way is as full as can be or more, and each limit is reached or passed.
        plan = plan_of([way(2, 9)], sender("a", 2, 1), sender("b", 2, 1))
        for one, other in (((2, 1), (2, 1)), ((1, 1), (2, 1)), ((2, 1), (1, 1)), ((3, 1), (-1, 1)), ((5, 2), (0, 1))):
            for why in ("", "w"):
                for also in ("", "w"):
                    self.refused(plan, (("a", one, why), ("b", other, also)))
        # Full, but by one that is above its limit.
        plan = plan_of([way(4, 9)], sender("a", 1, 1), sender("b", 9, 1))
        self.taken(plan, (("a", (1, 1), ""), ("b", (3, 1), "w")))
        for why in ("", "w"):
            self.refused(plan, (("a", (2, 1), why), ("b", (2, 1), "w")))

    def test_below_nought(self):
        plan = plan_of([way(1, 9)], sender("a", 1, 1), sender("b", 2, 1))
        self.refused(plan, (("a", (-1, 1), "w"), ("b", (2, 1), "")))
        self.refused(plan, (("a", (-1, 1), ""), ("b", (2, 1), "")))

    def test_less_than_one_could_have(self):
        plan = plan_of([way(2, 9)], sender("a", 9, 1), sender("b", 9, 1))
        for one, other in (((0, 1), (0, 1)), ((1, 2), (1, 2)), ((1, 1), (1, 2)), ((99, 100), (101, 100))):
            for why in ("", "w"):
                self.refused(plan, (("a", one, why), ("b", other, "w")))

    def test_fractions_not_in_lowest_terms(self):
        for share in ((2, 4), (-1, -2), (1, -2), (3, 6), (1, 0), (0, 0), [1, 2], (1, 2, 1), (1,), 1, 0, 0.5, "1/2", "1",
                      True, None, (True, 2), (1, 2.0), ("1", 2), Fraction(1, 2), (Awkward(), 2), Awkward()):
            self.refused(MIXED, (("a", share, ""),) + EVEN[1:], share)
        plan = plan_of([way(1, 9)], sender("a", 1, 1))
        for share in ((True, 1), (1, True), (True, True), (2, 2), 1, True, (1.0, 1)):
            self.refused(plan, (("a", share, ""),))

    def test_too_few_and_too_many(self):
        for plan, table in self.tables() + [((1, NARROW[1], ()), ())]:
            for wrong in (table[1:], table[:-1], table + table[-1:], table[:1] + table, table + ((),), table + (None,),
                          table + (("z", (0, 1), ""),), table + (("z", (1, 1), "w"),), (table,), shares_of(table),
                          tuple([row + ("",) for row in table]), (None,) + table[1:]):
                if wrong != table:
                    self.refused(plan, wrong)

    def test_rows_in_another_order(self):
        self.refused(MIXED, EVEN[::-1])
        self.refused(MIXED, EVEN[:1] + (EVEN[2], EVEN[1]) + EVEN[3:])
        plan = plan_of([way(2, 9)], sender("a", 9, 1), sender("b", 9, 1))
        self.taken(plan, (("a", (1, 1), "w"), ("b", (1, 1), "w")))
        self.refused(plan, (("b", (1, 1), "w"), ("a", (1, 1), "w")))
        self.refused(plan, (("a", (1, 1), "w"), ("a", (1, 1), "w")))

    def test_another_name(self):
        for place, row in enumerate(EVEN):
            for name in ("x", "", "p", "A", row[0] + " ", None, 1, ("a",), ["a"], row[0].encode(), Awkward()):
                self.refused(MIXED, EVEN[:place] + ((name,) + row[1:],) + EVEN[place + 1:])

    def test_lists_for_tuples(self):
        for wrong in (list(EVEN), tuple([list(row) for row in EVEN]), dict(enumerate(EVEN)), iter(EVEN),
                      {row[0]: row[1:] for row in EVEN}, tuple([(row[0], list(row[1]), row[2]) for row in EVEN])):
            self.refused(MIXED, wrong)
        self.refused((1, NARROW[1], ()), [])
        self.refused((1, NARROW[1], ()), {})

    def test_spoiled_and_changed_in_one_place(self):
        for plan, table in self.tables():
            for path, thing in spoiled(table) + changed(table):
                if len(path) == 2 and path[1] == 2 and type(thing[path[0]][2]) is str:
                    shares = {row[0]: plain.of(row[1]) for row in table}
                    right = thing[path[0]][2] in plain.whys(plan, shares, table[path[0]][0])
                    self.assertIs(shows_even(plan, thing), right, (path, thing))
                else:
                    self.refused(plan, thing, path)

    def test_anything(self):
        for thing in things() + [deep(tuple), deep(list), Awkward(), repr(EVEN)]:
            for wrong in (thing, (thing,) * 4, (thing,) + EVEN[1:], ((thing,) + EVEN[0][1:],) + EVEN[1:],
                          (("a", thing, ""),) + EVEN[1:], (("a", (thing, 2), ""),) + EVEN[1:]):
                # With 1 for the top of 1/2 it is the right table.
                if repr(wrong) != repr(EVEN):
                    self.refused(MIXED, wrong)
            if repr(thing) != "()":
                self.refused((1, NARROW[1], ()), thing)

    def test_tables_of_other_plans(self):
        for plan, table in self.tables():
            for other, also in self.tables():
                self.assertIs(shows_even(plan, also), plan == other)


class Drawn(unittest.TestCase):
    def other_shares(self, source, plan, table):
        """Shares not far from the even ones, rather such as fit and fill ways."""
        shares = {row[0]: plain.of(row[1]) for row in table}
        name = source.choice(list(shares))
        other = source.choice(list(shares))
        by = source.choice([Fraction(1, 60), Fraction(1, 2), shares[other] / 2, shares[other]])
        turn = source.randint(0, 4)
        if turn == 0:
            shares = {one: part / 2 for one, part in shares.items()}
        if turn in (1, 2):
            shares[name] += by
            shares[other] -= by
        if turn == 3:
            shares[name] = Fraction(0)
        if turn == 4:
            sender = [one for one in plan[2] if one[0] == name][0]
            shares[name] = Fraction(plain.limit(sender), sender[2])
        return shares

    def test_no_other_shares_are_taken(self):
        source = random.Random(71)
        looked = {True: 0, False: 0}
        for turn in range(400):
            plan = drawn.plan(source)
            table = even(plan)
            if not table:
                continue
            for count in range(5):
                shares = self.other_shares(source, plan, table)
                rows = tuple([(name, plain.pair_of(share)) for name, share in shares.items()])
                if rows != shares_of(table):
                    looked[plain.fit(plan, shares)] += 1
                    self.assertIs(shows_even(plan, with_whys(source, rows, plan)), False, (plan, rows))
        self.assertGreater(min(looked.values()), 300, looked)

    def test_any_whys_of_the_even_ones(self):
        source = random.Random(72)
        seen = {}
        for turn in range(300):
            plan = drawn.plan(source)
            table = even(plan)
            shares = {row[0]: plain.of(row[1]) for row in table}
            self.assertIs(shows_even(plan, with_whys(source, shares_of(table), plan)), True)
            for place, row in enumerate(table):
                for why in ["", "nobody"] + [one[0] for one in plan[1]]:
                    right = why in plain.whys(plan, shares, row[0])
                    seen[(right, why == "")] = seen.get((right, why == ""), 0) + 1
                    other = table[:place] + (row[:2] + (why,),) + table[place + 1:]
                    self.assertIs(shows_even(plan, other), right, (plan, other))
        self.assertGreater(min(seen.values()), 100, seen)


if __name__ == "__main__":
    unittest.main()
