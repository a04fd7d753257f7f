"""Points 19 and 3 (d): the look at tables of bounds."""

import random
import unittest

import drawn
import plain
from anything import Awkward, changed, deep, spoiled, things
from swellways.boundlooks import shows_bounds
from swellways.bounds import bounds
from swellways.plans import is_plan
from test_bounds import plan_of, sender, way
from test_rounds import NARROW, SHARED

# Loads below, at and above the pace, a way on no road, a line and ways by turns.
MIXED = plan_of(
    [way(2, 60, "turns", "p"), way(4, 7, "line", "q"), way(1, 9, "turns", "r"), way(3, 9, "line", "s")],
    sender("a", 4, 2, ("p", "q")), sender("b", 5, 3, ("q", "s")), sender("c", 1, 1, ("r",)), sender("d", 3, 2, ("s",)),
    sender("e", 1, 8, ("r",)))


class Rows(unittest.TestCase):
    def check(self, plan, rows, right):
        """Whether a table of these rows is right, each once."""
        self.assertIs(is_plan(plan), True)
        before = repr((plan, rows))
        self.assertIs(shows_bounds(plan, tuple(rows)), right, rows)
        self.assertEqual(repr((plan, rows)), before)

    def check_rows(self, plan, rights, wrongs):
        for row in rights:
            self.check(plan, [("w",) + row], True)
        for row in wrongs:
            self.check(plan, [("w",) + row], False)

    def test_most_by_what_comes(self):
        # f(1) is 4, f(2) is 2; the room is far.
        plan = plan_of([way(2, 60)], sender("a", 4, 2))
        self.check_rows(plan, [(4, 1, True), (4, 1, False), (5, 2, True), (59, 29, False), (60, 29, True),
                               (61, 29, True), (10 ** 30, 10 ** 30, True)],
                        [(3, 1, True), (3, 1, False), (3, 29, False), (0, 0, False)])

    def test_most_by_the_room_alone(self):
        plan = plan_of([way(2, 60)], sender("a", 5, 2))
        self.check_rows(plan, [(60, 29, False), (61, 29, False), (999, 99, False)],
                        [(59, 29, False), (59, 28, False), (60, 28, False), (60, 29, True), (999, 99, True),
                         (5, 2, False)])
        # The room is less than what comes.
        plan = plan_of([way(2, 3)], sender("a", 4, 2))
        self.check_rows(plan, [(3, 1, False), (4, 1, False), (5, 1, False)],
                        [(2, 1, False), (3, 1, True), (4, 1, True), (60, 29, True), (3, 0, False)])

    def test_none_with_room_just_at_what_comes(self):
        for room, right in ((3, False), (4, True), (5, True)):
            self.check_rows(plan_of([way(2, room)], sender("a", 4, 2)), [(5, 2, False)] + [(5, 2, True)] * right,
                            [(5, 2, True)] * (not right))

    def test_a_load_just_at_the_pace_and_just_above_it(self):
        # 1/2 + 1/3 + 1/6 is 1.
        at = plan_of([way(1, 60)], sender("a", 1, 2), sender("b", 1, 3), sender("c", 1, 6))
        above = plan_of([way(1, 60)], sender("a", 1, 2), sender("b", 1, 3), sender("c", 1, 5))
        self.check_rows(at, [(3, 2, True), (3, 2, False), (60, 59, True)], [(2, 1, True), (2, 2, False), (3, 1, True)])
        self.check_rows(above, [(60, 59, False)], [(3, 2, False), (59, 59, False), (60, 59, True), (60, 58, False)])

    def test_wait_by_what_stands(self):
        plan = plan_of([way(3, 8)], sender("a", 60, 1))
        self.check_rows(plan, [(8, 2, False), (8, 3, False), (9, 2, False), (60, 2, False)],
                        [(8, 1, False), (8, 0, False), (60, 1, False)])
        # The lesser one of room and most counts.
        plan = plan_of([way(1, 9)], sender("a", 3, 3), sender("b", 1, 8))
        self.check_rows(plan, [(9, 8, False), (10, 8, False)], [(9, 7, False), (10, 7, False)])
        plan = plan_of([way(1, 9)], sender("a", 2, 4), sender("b", 3, 8))
        self.check_rows(plan, [(5, 4, True), (6, 5, True), (7, 6, True), (9, 8, True), (60, 8, True), (60, 6, True)],
                        [(4, 4, True), (5, 3, True), (60, 5, True), (9, 5, True), (7, 5, True), (8, 5, True)])

    def test_wait_by_what_comes(self):
        # By turns two stand at most: three rounds by the turns, one by what comes, but not two by either.
        plan = plan_of([way(1, 9, "turns")], sender("a", 1, 2), sender("b", 1, 2))
        self.check_rows(plan, [(2, 1, True), (2, 3, True), (2, 4, True), (3, 1, True), (3, 3, True), (3, 5, True)],
                        [(2, 0, True), (2, 2, True), (3, 2, True), (3, 4, True)])

    def test_turns_count_each_sender_on_the_way(self):
        ways = [way(2, 6, "turns"), way(2, 6, "line", "x")]
        three = [sender(name, 9, 1) for name in "abc"] + [sender("d", 9, 1, ("x",))]
        plan = plan_of(ways, *three)
        for wait, right in ((7, False), (8, True), (9, True)):
            self.check(plan, [("w", 6, wait, False), ("x", 6, 2, False)], right)
        for wait, right in ((1, False), (2, True)):
            self.check(plan, [("w", 6, 8, False), ("x", 6, wait, False)], right)

    def test_a_way_on_no_road(self):
        for sort in ("line", "turns"):
            rights = [(most, wait, none) for most in (0, 1, 5, 99) for wait in (0, 1, 99) for none in (True, False)]
            self.check_rows(plan_of([way(1, 5, sort)]), rights, [(-1, 0, True), (0, -1, True), (0, 0, None), (0, 0, 1)])
        # Nine that stand would wait eight rounds, were there any.
        plan = plan_of([way(1, 9), way(1, 9, "line", "x")], sender("a", 1, 8, ("x",)))
        for wait in range(12):
            self.check(plan, [("w", 9, wait, True), ("x", 1, 0, True)], True)

    def test_without_senders(self):
        plan = (1, SHARED[1], ())
        self.check(plan, [("p", 0, 0, True), ("q", 0, 0, True)], True)
        self.check(plan, [("p", 7, 99, False), ("q", 99, 3, True)], True)
        self.check(plan, [("p", 0, 0, True)], False)

    def test_longer_waits_told_ahead_count(self):
        ways = [way(2, 60, name="p"), way(4, 60, name="q")]
        plan = plan_of(ways, sender("a", 4, 2, ("p", "q")))
        # With a wait of 1 ahead f(2) is 8 less 4; with one of 2 two beats may come together, and so on.
        for told, least in ((1, 4), (2, 8), (3, 8), (4, 12), (5, 12), (26, 56), (27, 56)):
            ahead = ("p", 2 * told + 2, told, True)
            wait = least // 4 - 1
            self.check(plan, [ahead, ("q", least, wait, True)], True)
            self.check(plan, [ahead, ("q", least - 1, wait, True)], False)
            self.check(plan, [ahead, ("q", least, wait - 1, True)], False)
        self.check(plan, [("p", 60, 29, True), ("q", 60, 14, True)], True)
        self.check(plan, [("p", 60, 30, True), ("q", 60, 14, True)], False)
        self.check(plan, [("p", 60, 30, True), ("q", 60, 14, False)], True)

    def test_none_goes_by_waits_told_ahead(self):
        ways = [way(2, 60, name="p"), way(4, 8, name="q")]
        plan = plan_of(ways, sender("a", 4, 2, ("p", "q")))
        self.check(plan, [("p", 8, 3, True), ("q", 8, 1, True)], True)
        self.check(plan, [("p", 10, 4, True), ("q", 8, 1, False)], True)
        self.check(plan, [("p", 10, 4, True), ("q", 8, 1, True)], False)

    def test_roads_go_in_the_order_of_the_ways(self):
        # So each way ahead on a road has its row ahead; what is else is no plan.
        ways = [way(2, 60, name="p"), way(2, 60, name="q"), way(2, 60, name="a")]
        for road, right in ((("p", "q"), True), (("q", "a"), True), (("p", "a"), True), (("q", "p"), False),
                            (("a", "p"), False), (("p", "a", "q"), False)):
            self.assertIs(is_plan(plan_of(ways, sender("a", 4, 2, road))), right)

    def test_very_long_waits(self):
        plan = plan_of([way(2, 60, name="p"), way(3, 60, name="q")], sender("a", 4, 2, ("p", "q")))
        for wait in (10 ** 9, 10 ** 40):
            self.check(plan, [("p", 60, wait, True), ("q", 60, 19, False)], True)
            self.check(plan, [("p", 60, wait, True), ("q", 60, 19, True)], False)
            self.check(plan, [("p", 60, wait, True), ("q", 59, 19, False)], False)
            self.check(plan, [("p", 60, wait, True), ("q", 60, 18, False)], False)


class Wrong(unittest.TestCase):
    def refused(self, plan, thing, words=None):
        before = repr(thing)
        self.assertIs(shows_bounds(plan, thing), False, words)
        self.assertEqual(repr(thing), before)

    def tables(self):
        return [(plan, bounds(plan)) for plan in (MIXED, SHARED, NARROW)]

    def test_right_ones(self):
        for plan, table in self.tables():
            self.assertIs(shows_bounds(plan, table), True)

    def test_too_few_and_too_many(self):
        for plan, table in self.tables():
            for wrong in (table[1:], table[:-1], table + table[-1:], table[:1] + table, table + ((),), table + (None,),
                          (), table + table, table[0], (table,), (table, table), (table[0][:3],) + table[1:],
                          (table[0] + (True,),) + table[1:], ((),) + table[1:]):
                self.refused(plan, wrong)

    def test_rows_in_another_order(self):
        table = bounds(MIXED)
        for place in range(4):
            for other in range(place):
                wrong = list(table)
                wrong[place], wrong[other] = wrong[other], wrong[place]
                self.refused(MIXED, tuple(wrong))
        self.refused(MIXED, table[::-1])
        # All rows alike but for the names.
        plan = (1, SHARED[1], ())
        self.refused(plan, (("q", 0, 0, True), ("p", 0, 0, True)))

    def test_another_name(self):
        for plan, table in self.tables():
            for place, row in enumerate(table):
                for name in ("x", "", "a", row[0] + " ", row[0].upper(), row[0].encode(), None, 0, (row[0],), [row[0]],
                             table[place - 1][0] if len(table) > 1 else "y", Awkward()):
                    self.refused(plan, table[:place] + ((name,) + row[1:],) + table[place + 1:])

    def test_parts_in_another_order(self):
        self.refused(NARROW, ((3, "w", 1, True),))
        self.refused(NARROW, (("w", True, 3, 1),))
        self.refused((1, NARROW[1], ()), (("w", True, 0, 0),))

    def test_truths_for_numbers_and_numbers_for_truths(self):
        plan = plan_of([way(1, 1)], sender("a", 1, 1))
        self.assertEqual(bounds(plan), (("w", 1, 0, True),))
        for row in ((True, 0, True), (1, False, True), (1, True, True), (1, 0, 1), (1, 0, 0), (1, 0, None),
                    (1, 0, "True"), (1, 0, ()), (1.0, 0, True), (1, 0.0, True), ("1", 0, True), (1, "0", True),
                    (None, 0, True), (1, None, True), ((1,), 0, True), (1, (0, 1), True), (1, 0, (True,)),
                    (1, 0, [True])):
            self.refused(plan, (("w",) + row,), row)
        self.assertIs(shows_bounds(plan, (("w", 1, 0, False),)), True)

    def test_lists_for_tuples(self):
        for plan, table in self.tables():
            self.refused(plan, list(table))
            self.refused(plan, tuple([list(row) for row in table]))
            self.refused(plan, table[:-1] + (list(table[-1]),))
            self.refused(plan, dict(enumerate(table)))
            self.refused(plan, {row[0]: row for row in table})
            self.refused(plan, iter(table))

    def test_spoiled_in_one_place(self):
        for plan, table in self.tables():
            for path, thing in spoiled(table):
                if len(path) == 2 and path[1] == 3 and type(thing[path[0]][3]) is bool:
                    self.assertIs(shows_bounds(plan, thing), plain.is_right_table(plan, thing))
                else:
                    self.refused(plan, thing, path)

    def test_anything(self):
        for plan, table in self.tables() + [((1, NARROW[1], ()), (("w", 0, 0, True),))]:
            for thing in things() + [deep(tuple), deep(list), Awkward(), repr(table), b"p"]:
                self.refused(plan, thing)
                self.refused(plan, (thing,) * len(table))
                self.refused(plan, (thing,) + table[1:])
                self.refused(plan, ((thing,) + table[0][1:],) + table[1:])
                if type(thing) is not int:
                    self.refused(plan, ((table[0][0], thing) + table[0][2:],) + table[1:])
                    self.refused(plan, (table[0][:2] + (thing,) + table[0][3:],) + table[1:])
                if type(thing) is not bool:
                    self.refused(plan, (table[0][:3] + (thing,),) + table[1:])

    def test_tables_of_other_plans(self):
        for plan, table in self.tables():
            for other, also in self.tables():
                self.assertIs(shows_bounds(plan, also), plan == other)


class Drawn(unittest.TestCase):
    def test_changed_ones_as_the_document_says(self):
        source = random.Random(64)
        seen = {True: 0, False: 0}
        for turn in range(200):
            plan = source.choice([drawn.plan, drawn.calm_plan])(source)
            table = bounds(plan)
            others = changed(table)
            for path, thing in source.sample(others, min(20, len(others))):
                right = plain.is_right_table(plan, thing)
                seen[right] += 1
                self.assertIs(shows_bounds(plan, thing), right, (plan, path, thing))
        self.assertGreater(min(seen.values()), 200, seen)

    def test_drawn_tables(self):
        source = random.Random(65)
        seen = {True: 0, False: 0}
        for turn in range(400):
            plan = source.choice([drawn.plan, drawn.calm_plan])(source)
            for count in range(8):
                table = tuple([(row[0], max(0, row[1] + source.choice([-1, 0, 0, 0, 1, 4])),
                                max(0, row[2] + source.choice([-1, 0, 0, 0, 1, 2, 9])),
                                source.choice([row[3], row[3], False])) for row in bounds(plan)])
                right = plain.is_right_table(plan, table)
                seen[right] += 1
                self.assertIs(shows_bounds(plan, table), right, (plan, table))
        self.assertGreater(min(seen.values()), 500, seen)


if __name__ == "__main__":
    unittest.main()
