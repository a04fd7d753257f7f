"""Points 24 and 3 (h): plans read, and what is refused by which row."""

import random
import unittest

import drawn
import written
from anything import deep, things
from swellways.errors import NoText
from swellways.reading import read_plan
from swellways.showing import show_plan
from test_rounds import NARROW

GRID = "grid 4"
WAY = "way p 1 5 - line"
OTHER = "way q 2 3 0 turns"
SENDER = "sender a p,q 2 0 9 step 2 1/2 2/3 10"
LATER = "sender b q 1 7 - still 3/2"
ROWS = (GRID, WAY, OTHER, SENDER, LATER)


class Read(unittest.TestCase):
    def test_by_hand(self):
        self.assertEqual(read_plan("\n".join(ROWS)), (
            4, (("p", 1, 5, None, "line"), ("q", 2, 3, 0, "turns")),
            (("a", ("p", "q"), 2, 0, 9, ("step", (2, 1), (1, 2), (2, 3), (10, 1))),
             ("b", ("q",), 1, 7, None, ("still", (3, 2))))))
        self.assertEqual(read_plan(GRID + "\n" + WAY), (4, (("p", 1, 5, None, "line"),), ()))

    def test_each_rule(self):
        for words, rule in (("still 60", ("still", (60, 1))),
                            ("swell 1 3/2 1/2 7/2", ("swell", (1, 1), (3, 2), (1, 2), (7, 2))),
                            ("heed 1 1/9 1 2", ("heed", (1, 1), (1, 9), (1, 1), (2, 1))),
                            ("calm 1 1/9 0 0 2", ("calm", (1, 1), (1, 9), 0, 0, (2, 1))),
                            ("calm 1 1/9 3 60 2", ("calm", (1, 1), (1, 9), 3, 60, (2, 1)))):
            self.assertEqual(read_plan("\n".join([GRID, WAY, "sender a p 1 0 - " + words]))[2][0][5], rule)


class Refused(unittest.TestCase):
    def refuse(self, text, row):
        with self.assertRaises(NoText) as told:
            read_plan(text)
        self.assertIs(type(told.exception.row), int)
        self.assertEqual(told.exception.row, row, text)

    def refuse_row(self, place, row):
        """A row of wrong form is refused by its own number, whatever stands behind it."""
        for rows in (ROWS[:place] + (row,), ROWS[:place] + (row,) + ROWS[place + 1:],
                     ROWS[:place] + (row, "nothing", "")):
            self.refuse("\n".join(rows), place)

    def whole(self, rows):
        """Each row has its form, yet the whole is no plan."""
        self.refuse("\n".join(rows), len(rows))

    def test_no_texts(self):
        for thing in things() + [deep(tuple), deep(list), "\n".join(ROWS).encode(), list(ROWS), NARROW]:
            if not isinstance(thing, str):
                self.refuse(thing, 0)

    def test_other_texts(self):
        for text in ("", " ", "\n", "\n\n", "grid", "4", "plan", "\n" + GRID + "\n" + WAY):
            self.refuse(text, 0)

    def test_grid(self):
        for row in ("grid", "grid ", "grid  4", " grid 4", "grid 4 ", "Grid 4", "grids 4", "4 grid", "grid 4 4",
                    "grid -1",
                    "grid 04", "grid 00", "grid 1/2", "grid 4/1", "grid +4", "grid four", "grid -", "grid 1000000000",
                    "grid 4.0", "grid\n4", WAY, SENDER, ""):
            self.refuse_row(0, row)
        for row in ("grid 0", "grid 61", "grid 999999999"):
            self.whole((row,) + ROWS[1:])

    def test_way(self):
        for row in ("way", "way ", "way p", "way p 1 5 -", "way p 1 5 - line ", "way p 1 5 - line line",
                    " way p 1 5 - line",
                    "way  p 1 5 - line", "way p  1 5 - line", "way p 1 5  - line", "way p 1 5 line", "Way p 1 5 - line",
                    "way P 1 5 - line", "way  1 5 - line", "way ninechars 1 5 - line", "way p1 1 5 - line",
                    "way p - 5 - line", "way p 1 - - line", "way p 1/2 5 - line", "way p 1 5/2 - line",
                    "way p 1 5 1/2 line",
                    "way p 01 5 - line", "way p 1 05 - line", "way p 1 5 00 line", "way p 1 5 -1 line",
                    "way p -1 5 - line",
                    "way p 1 5 -- line", "way p 1 5 None line", "way p 1 5 - lane", "way p 1 5 - Line", "way p 1 5 - ",
                    "way p 1 5 - turn", "way p 1000000000 5 - line", "way p 1 5 1234567890 line", "p 1 5 - line",
                    "way,p 1 5 - line"):
            self.refuse_row(1, row)
            self.refuse_row(2, row)
        for row in ("way p 0 5 - line", "way p 21 5 - line", "way p 1 0 - line", "way p 1 61 - line",
                    "way p 1 5 61 line",
                    "way p 999999999 5 - line", "way q 1 5 - line", "way x 1 5 - line"):
            self.whole((GRID, row) + ROWS[2:])

    def test_sender(self):
        for row in ("sender", "sender a", "sender a p,q 2 0 9", "sender a p,q 2 0 9 ", "sender a p,q 2 0 9 still",
                    "sender a p,q 2 0 still 1", "sender a 2 0 9 still 1", "sender p,q 2 0 9 still 1",
                    "sender a p,q 2 9 still 1",
                    "sender  a p,q 2 0 9 still 1", "sender a p,q 2 0 9  still 1", "sender a p,q 2 0 9 still 1 ",
                    "sender a  2 0 9 still 1", " sender a p,q 2 0 9 still 1", "Sender a p,q 2 0 9 still 1",
                    "sender A p,q 2 0 9 still 1", "sender a, p,q 2 0 9 still 1", "sender ninechars p,q 2 0 9 still 1",
                    "sender a p, 2 0 9 still 1", "sender a ,p 2 0 9 still 1", "sender a p,,q 2 0 9 still 1",
                    "sender a p, q 2 0 9 still 1", "sender a p;q 2 0 9 still 1", "sender a P 2 0 9 still 1",
                    "sender a p,ninechars 2 0 9 still 1", "sender a - 2 0 9 still 1", "sender a p,q - 0 9 still 1",
                    "sender a p,q 2 - 9 still 1", "sender a p,q 2 0 -- still 1", "sender a p,q 02 0 9 still 1",
                    "sender a p,q 2 00 9 still 1", "sender a p,q 2 0 09 still 1", "sender a p,q 2/3 0 9 still 1",
                    "sender a p,q 2 1/2 9 still 1", "sender a p,q 2 0 9/2 still 1", "sender a p,q 2 0 -9 still 1",
                    "sender a p,q 2 1000000000 9 still 1", "sender a p,q 2 0 1000000000 still 1",
                    "sender a p,q 2 0 9 stop 1",
                    "sender a p,q 2 0 9 Still 1", "sender a p,q 2 0 9 1 still", "sender a p,q 2 0 9 still 1 1"):
            self.refuse_row(3, row)
            self.refuse_row(4, row)
        for row in ("sender a p,q 0 0 9 still 1", "sender a p,q 9 0 9 still 1", "sender a p,q 2 1000001 9 still 1",
                    "sender a p,q 2 0 1000001 still 1", "sender a q,p 2 0 9 still 1", "sender a p,p 2 0 9 still 1",
                    "sender a x 2 0 9 still 1", "sender a p,x 2 0 9 still 1", "sender a p,q,p,q,p,q,p 2 0 9 still 1",
                    "sender b p,q 2 0 9 still 1", "sender c p,q 2 0 9 still 1", "sender a p,q 999999999 0 9 still 1"):
            self.whole(ROWS[:3] + (row,) + ROWS[4:])

    def test_rules(self):
        for words in ("step 2 1/2 2/3", "step 2 1/2 2/3 10 1", "step", "swell 2 3/2 2/3", "heed 2 1 1",
                      "heed 2 1 1 3 3",
                      "calm 2 1 1 3", "calm 2 1 1 3 9 9", "calm 2 1 1/2 3 9", "calm 2 1 1 5/2 9", "step 2 - 2/3 10",
                      "calm 2 1 - 3 9", "still -", "still x", "still one", "step 2 1/2 2/3 10 ", "calm 2 1 1 3 9 ",
                      "still  1"):
            self.refuse_row(3, "sender a p,q 2 0 9 " + words)
        for words in ("still 0", "still 1/2", "still 61", "still 121/2", "step 2 1/2 1 10", "step 2 0 1/2 10",
                      "step 11 1 1/2 10",
                      "step 1/2 1 1/2 10", "step 2 61 1/2 10", "step 2 1 0 10", "swell 2 1 1/2 10",
                      "swell 2 1/2 1/2 10",
                      "heed 2 1 0 10", "heed 2 1 3/2 10", "calm 2 1 3 1 9", "calm 2 1 1 61 9", "calm 2 1 999999999 1 9",
                      "still 999999999/1000", "still 999999999"):
            self.whole(ROWS[:3] + ("sender a p,q 2 0 9 " + words,) + ROWS[4:])

    def test_fractions(self):
        for word in ("2/4", "4/2", "2/2", "1/1", "3/1", "0/1", "0/2", "1/0", "0/0", "01/2", "1/02", "1/2/3", "/2",
                     "1/", "/", "1//2",
                     "1 /2", "-1/2", "1/-2", "-1", "+1", "1.5", "1,5", "1e1", "3/1000000000", "1000000000",
                     "1000000000/3",
                     "0000000001", "", "00", "007", "1_0", "1/2 ", "999999998/999999996"):
            self.refuse_row(3, "sender a p,q 2 0 9 still " + word)
            self.refuse_row(3, f"sender a p,q 2 0 9 step {word} 1 1/2 10")
            self.refuse_row(3, f"sender a p,q 2 0 9 step 1 {word} 1/2 10")
            self.refuse_row(3, f"sender a p,q 2 0 9 heed 1 1 {word} 10")
            self.refuse_row(3, f"sender a p,q 2 0 9 swell 1 2 1/2 {word}")
            self.refuse_row(3, f"sender a p,q 2 0 9 calm 1 2 3 4 {word}")
            self.refuse_row(3, f"sender a p,q 2 0 9 calm {word} 2 3 4 9")
            self.refuse_row(3, f"sender a p,q 2 0 9 calm 1 2 {word} 4 9")
            self.refuse_row(3, f"sender a p,q 2 0 9 calm 1 2 3 {word} 9")

    def test_nine_figures(self):
        plan = read_plan("\n".join(ROWS[:3] + ("sender a p 1 0 - still 999999999/999999998",)))
        self.assertEqual(plan[2][0][5], ("still", (999999999, 999999998)))
        plan = read_plan("\n".join(ROWS[:3] + ("sender a p 1 1000000 1000000 still 1",)))
        self.assertEqual(plan[2][0][3:5], (10 ** 6, 10 ** 6))

    def test_rows_that_lack(self):
        self.refuse(GRID, 1)
        self.refuse("grid 999", 1)
        self.refuse("", 0)

    def test_rows_that_stand_where_they_may_not(self):
        self.refuse("\n".join((WAY, GRID, OTHER)), 0)
        self.refuse("\n".join((SENDER, GRID, WAY)), 0)
        self.refuse("\n".join((GRID, SENDER, WAY, OTHER)), 1)
        self.refuse("\n".join((GRID, SENDER)), 1)
        self.refuse("\n".join((GRID, WAY, OTHER, SENDER, "way x 1 5 - line", LATER)), 4)
        self.refuse("\n".join((GRID, WAY, SENDER, OTHER, LATER)), 3)
        self.refuse("\n".join((GRID, GRID) + ROWS[1:]), 1)
        self.refuse("\n".join((GRID, WAY, GRID) + ROWS[2:]), 2)
        self.refuse("\n".join(ROWS + (GRID,)), 5)
        self.refuse("\n".join(ROWS + (WAY,)), 5)

    def test_line_feeds(self):
        text = "\n".join(ROWS)
        self.refuse(text + "\n", 5)
        self.refuse(text + "\n\n", 5)
        self.refuse("\n" + text, 0)
        self.refuse(text.replace("\n", "\n\n"), 1)
        self.refuse(text.replace("\n", " "), 0)
        self.refuse(GRID + "\n", 1)
        self.refuse("\n".join((GRID, WAY, "", SENDER)), 2)

    def test_the_first_row_at_fault(self):
        self.refuse("\n".join((GRID, WAY, "way q", "sender")), 2)
        # A row of wrong form goes ahead of a whole that is no plan.
        self.refuse("\n".join(("grid 0", WAY, WAY, "sender a")), 3)
        self.refuse("\n".join((GRID, WAY, WAY, LATER, SENDER, SENDER)), 6)

    def test_the_whole_is_no_plan(self):
        self.whole((GRID, WAY, WAY))
        self.whole((GRID, WAY, OTHER, LATER, SENDER))
        self.whole((GRID, WAY, OTHER, SENDER, SENDER))
        names = "abcdefghi"
        ways = [f"way {name} 1 1 - line" for name in names]
        self.assertEqual(len(read_plan("\n".join([GRID] + ways[:6]))[1]), 6)
        self.whole([GRID] + ways[:7])
        senders = [f"sender {name} p 1 0 - still 1" for name in names]
        self.assertEqual(len(read_plan("\n".join([GRID, WAY] + senders[:8]))[2]), 8)
        self.whole([GRID, WAY] + senders)


class Drawn(unittest.TestCase):
    def test_there_and_back(self):
        source = random.Random(101)
        for turn in range(400):
            plan = drawn.plan(source)
            before = repr(plan)
            self.assertEqual(read_plan(show_plan(plan)), plan)
            self.assertEqual(repr(read_plan(show_plan(plan))), before)

    def test_spoiled_texts(self):
        source = random.Random(102)
        seen = {}
        for turn in range(1500):
            text = show_plan(drawn.plan(source))
            for count in range(3):
                text = written.spoiled(source, text)
                wanted = written.plan(text)
                try:
                    told = read_plan(text)
                    self.assertEqual(show_plan(told), text)
                except NoText as error:
                    told = error.row
                self.assertEqual(told, wanted, text)
                kind = "plan" if isinstance(told, tuple) else "whole" if told == len(text.split("\n")) else "row"
                seen[kind] = seen.get(kind, 0) + 1
        self.assertGreater(min(seen.values()), 100, seen)
        self.assertEqual(len(seen), 3)


if __name__ == "__main__":
    unittest.main()
