"""Points 13, 14 and 3 (b): runs and totals."""

import random
import unittest

import drawn
import plain
from swellways.rounds import begun, stepped
from swellways.runs import run, totals
from test_rounds import NARROW, SHARED, events


class Run(unittest.TestCase):
    def test_no_rounds(self):
        self.assertEqual(run(NARROW, 0), (begun(NARROW), []))
        self.assertEqual(totals(NARROW, 0), (("a", 0, 0, 0, 0),))
        self.assertEqual(totals((1, NARROW[1], ()), 9), ())

    def test_by_hand(self):
        state, rows = run(NARROW, 5)
        self.assertEqual(state, ((((), (), ""),), (("a", 1, (5, 2), (0, 1), 4, 0, (), (), 1, 0, 0),)))
        self.assertEqual(rows, [
            events("sent a 0 w", "sent a 1 w", "sent a 2 w", "in a 0 w", "in a 1 w", "lost a 2 w", "taken a 0 w"),
            events("taken a 1 w"),
            events("sent a 2 w", "in a 2 w", "taken a 2 w"),
            [],
            events("sent a 3 w", "in a 3 w", "taken a 3 w"),
        ])

    def test_totals_by_hand(self):
        for many, row in ((1, (3, 1, 1, 0)), (2, (3, 2, 1, 1)), (3, (4, 3, 1, 1)), (5, (5, 4, 1, 1)),
                          (9, (5, 4, 1, 1))):
            self.assertEqual(totals(NARROW, many), (("a",) + row,))
        self.assertEqual(totals(SHARED, 1), (("a", 2, 0, 0, 0), ("b", 2, 0, 1, 0), ("c", 0, 0, 0, 0)))
        self.assertEqual(totals(SHARED, 2), (("a", 2, 1, 0, 1), ("b", 3, 1, 1, 0), ("c", 2, 1, 1, 1)))
        self.assertEqual(totals(SHARED, 4), (("a", 3, 2, 0, 2), ("b", 5, 2, 2, 0), ("c", 6, 4, 2, 4)))

    def test_marked_ones_are_counted_over_beats(self):
        # All are marked, and the beats set the sender's own counts back in some rounds alone.
        plan = (1, (("w", 2, 9, 0, "line"),), (("a", ("w",), 3, 0, None, ("still", (4, 1))),))
        self.assertEqual(totals(plan, 1), (("a", 4, 2, 0, 2),))
        self.assertEqual(totals(plan, 3), (("a", 4, 4, 0, 4),))
        self.assertEqual(totals(plan, 4), (("a", 8, 6, 0, 6),))
        self.assertEqual(totals(plan, 30), (("a", 40, 40, 0, 40),))

    def test_pieces_are_the_whole(self):
        source = random.Random(20)
        for turn in range(40):
            plan, many, cut = drawn.plan(source), 30, source.randint(0, 30)
            whole, rows = run(plan, many)
            state, begin = run(plan, cut)
            end = []
            for count in range(many - cut):
                state, told = stepped(plan, state)
                end.append(told)
            self.assertEqual((state, begin + end), (whole, rows))

    def test_drawn_totals(self):
        source = random.Random(21)
        for turn in range(80):
            plan, many = drawn.plan(source), source.randint(0, 60)
            other = plain.PlainRun(plan)
            rows = [other.step() for count in range(many)]
            self.assertEqual(run(plan, many), (other.state(), rows))
            self.assertEqual(totals(plan, many), other.counted())
            for name, sent, taken, lost, marked in totals(plan, many):
                words = [one[0] for row in rows for one in row if one[1] == name]
                self.assertEqual((sent, taken, lost), tuple(words.count(word) for word in ("sent", "taken", "lost")))
                self.assertLessEqual(marked, taken)

    def test_lists_are_new(self):
        state, rows = run(NARROW, 3)
        rows[1].append("spoiled")
        rows.append("spoiled")
        self.assertEqual(len(run(NARROW, 3)[1]), 3)
        self.assertNotIn("spoiled", run(NARROW, 3)[1][1])
        self.assertIsNot(rows[0], rows[1])

    def test_many_rounds(self):
        state, rows = run(SHARED, 2000)
        self.assertEqual(len(rows), 2000)
        sent = [one for row in rows for one in row if one[:2] == ("sent", "b")]
        self.assertEqual(totals(SHARED, 2000)[1][1], len(sent))


if __name__ == "__main__":
    unittest.main()
