"""Points 20 and 3 (d): the least table of bounds, and what it bounds."""

import random
import unittest

import drawn
import plain
from swellways.boundlooks import shows_bounds
from swellways.bounds import bounds
from swellways.plans import is_plan
from test_rounds import NARROW, SHARED


def way(pace, room, sort="line", name="w", mark=None):
    return (name, pace, room, mark, sort)


def sender(name, limit, beat, road=("w",), begin=0):
    """A sender that sends at most so many letters at each beat, and at first just so many."""
    return (name, road, beat, begin, None, ("step", (limit, 1), (1, 1), (1, 2), (limit, 1)))


def plan_of(ways, *senders):
    return (1, tuple(ways), senders)


class ByHand(unittest.TestCase):
    def check(self, plan, *rows):
        self.assertIs(is_plan(plan), True)
        before = repr(plan)
        told = bounds(plan)
        self.assertEqual(told, rows)
        self.assertEqual([type(part) for row in told for part in row], [str, int, int, bool] * len(rows))
        self.assertEqual([type(row) for row in told] + [type(told)], [tuple] * (len(rows) + 1))
        self.assertIs(shows_bounds(plan, told), True)
        self.assertEqual(plain.least_bounds(plan), rows)
        self.assertEqual(repr(plan), before)

    def test_below_the_pace(self):
        # Three letters every second round: three stand, two go at once, one waits a round.
        self.check(plan_of([way(2, 10)], sender("a", 3, 2)), ("w", 3, 1, True))
        self.check(plan_of([way(3, 10)], sender("a", 3, 2)), ("w", 3, 0, True))
        self.check(plan_of([way(20, 60)], sender("a", 3, 2)), ("w", 3, 0, True))

    def test_a_load_at_the_pace_and_just_above_it(self):
        self.check(plan_of([way(2, 10)], sender("a", 4, 2)), ("w", 4, 1, True))
        self.check(plan_of([way(2, 10)], sender("a", 5, 2)), ("w", 10, 4, False))
        # 7/3 and 13/8 are 95/24, and 7/3 and 5/3 are 4.
        self.check(plan_of([way(4, 60)], sender("a", 7, 3), sender("b", 13, 8)), ("w", 20, 4, True))
        self.check(plan_of([way(4, 60)], sender("a", 7, 3), sender("b", 5, 3)), ("w", 12, 2, True))
        self.check(plan_of([way(4, 60)], sender("a", 7, 3), sender("b", 7, 4)), ("w", 60, 14, False))

    def test_room_just_at_what_stands_and_one_less(self):
        self.check(plan_of([way(2, 4)], sender("a", 4, 2)), ("w", 4, 1, True))
        self.check(plan_of([way(2, 3)], sender("a", 4, 2)), ("w", 3, 1, False))
        self.check(plan_of([way(2, 1)], sender("a", 4, 2)), ("w", 1, 0, False))

    def test_more_stand_later_than_in_the_first_round(self):
        self.check(plan_of([way(3, 60)], sender("a", 8, 3)), ("w", 8, 2, True))
        # With a wait of 1 ahead the letters of two beats may come in two rounds: f(2) is 8 less the pace.
        ways = [way(2, 60, name="p"), way(4, 60, name="q")]
        self.check(plan_of(ways, sender("a", 4, 2, ("p", "q"))), ("p", 4, 1, True), ("q", 4, 0, True))
        ways = [way(2, 60, name="p"), way(2, 60, name="q")]
        self.check(plan_of(ways, sender("a", 4, 2, ("p", "q"))), ("p", 4, 1, True), ("q", 6, 2, True))

    def test_the_peak_is_not_always_in_the_first_round(self):
        ways = [way(4, 60, name="p"), way(5, 60, name="q")]
        plan = plan_of(ways, sender("a", 4, 1, ("q",)), sender("b", 4, 4, ("p", "q")))
        self.check(plan, ("p", 4, 0, True), ("q", 8, 1, True))
        # What waits in p may come to q together with what b sends next: f goes 8, 11, 10, 9.
        ways = [way(1, 60, name="p"), way(5, 60, name="q")]
        plan = plan_of(ways, sender("a", 4, 1, ("q",)), sender("b", 4, 4, ("p", "q")))
        self.check(plan, ("p", 4, 3, True), ("q", 11, 2, True))

    def test_a_line_and_a_way_by_turns(self):
        two = (sender("a", 5, 5), sender("b", 5, 5))
        self.check(plan_of([way(1, 6)], *two), ("w", 6, 5, False))
        self.check(plan_of([way(1, 6, "turns")], *two), ("w", 6, 11, False))
        # By turns, what has come is gone in five rounds.
        self.check(plan_of([way(2, 60)], *two), ("w", 10, 4, True))
        self.check(plan_of([way(2, 60, "turns")], *two), ("w", 10, 4, True))
        # With one sender there are no other ones whose turn it could be.
        self.check(plan_of([way(2, 7, "turns")], sender("a", 9, 2)), ("w", 7, 3, False))

    def test_wait_by_either_of_its_two_ways(self):
        # Room alone, (q - 1) rounds; what comes alone: 2 in 2 rounds.
        self.check(plan_of([way(1, 2, "turns")], sender("a", 1, 2), sender("b", 1, 2)), ("w", 2, 1, True))
        self.check(plan_of([way(1, 3)], sender("a", 9, 2)), ("w", 3, 2, False))
        self.check(plan_of([way(2, 9, "turns")], sender("a", 1, 1), sender("b", 1, 1)), ("w", 2, 0, True))
        # What doesn't fill a round's pace still takes the whole round.
        self.check(plan_of([way(4, 5)], sender("a", 20, 1)), ("w", 5, 1, False))
        self.check(plan_of([way(4, 4)], sender("a", 20, 1)), ("w", 4, 0, False))

    def test_a_way_on_no_road(self):
        self.check(plan_of([way(1, 1, name="p"), way(1, 9), way(1, 1, "turns", "q")], sender("a", 3, 8)),
                   ("p", 0, 0, True), ("w", 3, 2, True), ("q", 0, 0, True))

    def test_without_senders(self):
        self.check((1, SHARED[1], ()), ("p", 0, 0, True), ("q", 0, 0, True))
        self.check((60, NARROW[1], ()), ("w", 0, 0, True))

    def test_waits_of_ways_ahead_on_the_road_alone(self):
        # c goes over p and r, so what waits in q and s does not count for it, and b begins at q.
        ways = [way(2, 60, name="p"), way(3, 60, name="q"), way(20, 60, name="r"), way(20, 60, name="s")]
        plan = plan_of(ways, sender("b", 9, 8, ("q", "s")), sender("c", 9, 8, ("p", "r", "s")))
        self.check(plan, ("p", 9, 4, True), ("q", 9, 2, True), ("r", 9, 0, True), ("s", 18, 0, True))
        ways = [way(2, 60, name="p"), way(3, 60, name="q"), way(2, 60, name="r"), way(20, 60, name="s")]
        plan = plan_of(ways, sender("b", 9, 8, ("q", "s")), sender("c", 9, 8, ("p", "r", "s")))
        self.check(plan, ("p", 9, 4, True), ("q", 9, 2, True), ("r", 10, 4, True), ("s", 27, 1, True))

    def test_names_of_ways_in_any_order(self):
        ways = [way(2, 60, name="z"), way(2, 60, name="a"), way(2, 60, name="m")]
        plan = plan_of(ways, sender("a", 4, 2, ("z", "m")), sender("z", 4, 2, ("a",)))
        self.check(plan, ("z", 4, 1, True), ("a", 4, 1, True), ("m", 6, 2, True))

    def test_limits_of_rules(self):
        # Of still w counts, of the other ones top; the floor of each, whatever the grid.
        for rule, limit in ((("still", (11, 2)), 5), (("step", (1, 1), (1, 1), (1, 2), (23, 4)), 5),
                            (("swell", (1, 1), (2, 1), (1, 2), (6, 1)), 6),
                            (("heed", (3, 1), (1, 1), (1, 2), (13, 2)), 6),
                            (("calm", (3, 1), (1, 1), 1, 2, (3, 1)), 3)):
            for grid in (1, 7, 60):
                self.check((grid, (way(20, 60),), (("a", ("w",), 1, 0, 0, rule),)), ("w", limit, 0, True))

    def test_beats_of_all_lengths(self):
        senders = [sender(name, 1, beat) for name, beat in zip("abcdefgh", range(1, 9))]
        self.check(plan_of([way(3, 60)], *senders), ("w", 8, 2, True))
        self.check(plan_of([way(2, 60)], *senders), ("w", 60, 29, False))

    def test_begin_and_many_do_not_count(self):
        for begin, many in ((0, None), (7, 0), (10 ** 6, 1)):
            one = ("a", ("w",), 2, begin, many, ("still", (3, 1)))
            self.check(plan_of([way(2, 10)], one), ("w", 3, 1, True))


class InTheRounds(unittest.TestCase):
    def holds(self, plan, table, many):
        for seen, row in zip(plain.watched(plan, many), table):
            self.assertLessEqual(seen[1], row[1], (plan, row))
            self.assertLessEqual(seen[2], row[2], (plan, row))
            if row[3]:
                self.assertEqual(seen[3], 0, (plan, row))

    def test_bounds_that_are_reached(self):
        for plan in (plan_of([way(2, 10)], sender("a", 3, 2)), plan_of([way(2, 10)], sender("a", 4, 2)),
                     plan_of([way(2, 3)], sender("a", 4, 2)), plan_of([way(3, 60)], sender("a", 8, 3)),
                     plan_of([way(1, 60, name="p"), way(5, 60, name="q")], sender("b", 4, 4, ("p", "q")))):
            seen = plain.watched(plan, 40)
            self.assertEqual([row[:2] for row in bounds(plan)][0], seen[0][:2])
            self.assertEqual(bounds(plan)[0][2], seen[0][2])
            self.assertEqual(bounds(plan)[0][3], seen[0][3] == 0)
            self.holds(plan, bounds(plan), 40)

    def test_drawn_with_any_windows(self):
        source = random.Random(60)
        reached = {True: 0, False: 0}
        for turn in range(250):
            plan = source.choice([drawn.plan, drawn.calm_plan])(source)
            table = bounds(plan)
            for count in range(3):
                other = drawn.other_windows(source, plan)
                self.assertEqual(bounds(other), table)
                self.holds(other, table, 50)
                for seen, row in zip(plain.watched(other, 50), table):
                    reached[seen[1:3] == row[1:3]] += 1
        # The bounds are no idle ones: some are just what is seen.
        self.assertGreater(min(reached.values()), 50, reached)

    def test_drawn_tables_that_the_looker_takes(self):
        source = random.Random(61)
        taken = 0
        for turn in range(250):
            plan = drawn.other_windows(source, source.choice([drawn.plan, drawn.calm_plan])(source))
            table = tuple([(row[0], max(0, row[1] + source.randint(-3, 5)), max(0, row[2] + source.randint(-2, 4)),
                            source.choice([row[3], True, False])) for row in bounds(plan)])
            if shows_bounds(plan, table):
                taken += 1
                self.holds(plan, table, 50)
        self.assertGreater(taken, 40)


class Drawn(unittest.TestCase):
    def test_the_least_table(self):
        source = random.Random(62)
        seen = {}
        for turn in range(300):
            plan = source.choice([drawn.plan, drawn.calm_plan])(source)
            table = bounds(plan)
            self.assertEqual(table, plain.least_bounds(plan), plan)
            self.assertIs(shows_bounds(plan, table), True)
            for row, own in zip(table, plan[1]):
                kind = (row[3], row[1] < own[2], own[4])
                seen[kind] = seen.get(kind, 0) + 1
        # None lost with room to spare and with none, some lost; of lines and of ways by turns.
        self.assertEqual(len(seen), 6, seen)
        self.assertGreater(min(seen.values()), 1, seen)

    def test_one_less_is_not_right(self):
        source = random.Random(63)
        looked = 0
        for turn in range(200):
            plan = source.choice([drawn.plan, drawn.calm_plan])(source)
            table = bounds(plan)
            for place, row in enumerate(table):
                lesser = [(row[0], row[1] - 1, row[2], row[3]), (row[0], row[1], row[2] - 1, row[3])]
                if not row[3]:
                    lesser.append(row[:3] + (True,))
                for one in lesser:
                    looked += 1
                    self.assertIs(shows_bounds(plan, table[:place] + (one,) + table[place + 1:]), False, (plan, one))
        self.assertGreater(looked, 500)


if __name__ == "__main__":
    unittest.main()
