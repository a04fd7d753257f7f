"""Points 24 and 3 (h): plans written."""

import random
import unittest

import drawn
import written
from swellways.plans import is_plan
from swellways.reading import read_plan
from swellways.showing import show_plan
from test_rounds import NARROW, SHARED


class Show(unittest.TestCase):
    def check(self, plan, *rows):
        self.assertIs(is_plan(plan), True)
        before = repr(plan)
        self.assertEqual(show_plan(plan), "\n".join(rows))
        self.assertEqual(read_plan(show_plan(plan)), plan)
        self.assertEqual(repr(plan), before)

    def test_by_hand(self):
        self.check(NARROW, "grid 2", "way w 1 2 1 line", "sender a w 2 0 4 step 3 1 1/2 10")
        self.check(SHARED, "grid 1", "way p 1 3 - turns", "way q 2 2 0 line", "sender a p,q 1 0 - still 2",
                   "sender b p 1 0 - still 2", "sender c q 1 1 - still 2")
        self.check((60, (("way", 20, 60, 60, "turns"),), ()), "grid 60", "way way 20 60 60 turns")

    def test_each_rule(self):
        ways = (("w", 1, 1, None, "line"),)
        for rule, words in ((("still", (7, 2)), "still 7/2"),
                            (("step", (2, 1), (1, 2), (2, 3), (10, 1)), "step 2 1/2 2/3 10"),
                            (("swell", (2, 1), (3, 2), (2, 3), (59, 7)), "swell 2 3/2 2/3 59/7"),
                            (("heed", (2, 1), (60, 1), (1, 1), (60, 1)), "heed 2 60 1 60"),
                            (("calm", (5, 4), (1, 999999999), 0, 60, (5, 4)), "calm 5/4 1/999999999 0 60 5/4")):
            self.check((1, ways, (("sender", ("w",), 8, 10 ** 6, 0, rule),)), "grid 1", "way w 1 1 - line",
                       "sender sender w 8 1000000 0 " + words)

    def test_drawn(self):
        source = random.Random(100)
        for turn in range(500):
            plan = drawn.plan(source)
            text = show_plan(plan)
            self.assertIs(type(text), str)
            self.assertEqual(text, written.show(plan))
            self.assertEqual(read_plan(text), plan)


if __name__ == "__main__":
    unittest.main()
