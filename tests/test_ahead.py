"""Points 22 and 3 (g): whether a plan is ahead of another one in what is counted."""

import random
import unittest
from math import lcm

import drawn
import plain
from swellways.again import again
from swellways.againpapers import again_paper
from swellways.ahead import ahead
from swellways.aheadlooks import shows_ahead
from swellways.plans import is_plan
from swellways.runs import totals
from test_letters import HALVED
from test_rounds import NARROW, SHARED

WORDS = ("sent", "taken", "lost")
WIDE = ("w", 20, 20, None, "line")


def still(window, beat=1, begin=0, many=None, way=WIDE):
    """A plan of one sender, which sends so many letters at each beat."""
    return (1, (way,), (("a", ("w",), beat, begin, many, ("still", (window, 1))),))


def with_idle(plan, rows):
    """The plan with senders that send nothing, one for each (name, beat, begin)."""
    idle = tuple([(name, ("w",), beat, begin, 0, ("still", (1, 1))) for name, beat, begin in rows])
    return plan[:2] + (plan[2] + idle,)


def of_420(window, late):
    """A plan that goes round in 420 rounds from late on."""
    return with_idle(still(window), (("b", 3, 0), ("c", 4, 0), ("d", 5, 0), ("e", 7, 0), ("f", 1, late)))


def of_11(begin):
    """A plan that goes round in 11 rounds: the window goes from 11 to 21, and at 21 one is lost; 176 are sent."""
    return (1, (WIDE,), (("a", ("w",), 1, begin, None, ("step", (11, 1), (1, 1), (11, 21), (60, 1))),))


def sent_of_11(begin, n):
    """How many of_11 has sent ahead of round n, told by the windows alone."""
    return sum(11 + turn % 11 for turn in range(max(0, n - begin)))


def counts(plan, name, what, many):
    """What is counted ahead of each round from 0 to many, the rounds one by one."""
    which = [sender[0] for sender in plan[2]].index(name)
    return [counted[which][1 + WORDS.index(what)] for state, counted in plain.walked(plan, many)]


def first_fewer(ones, others):
    """The first place at which the one row has fewer, or None."""
    for place, (one, other) in enumerate(zip(ones, others)):
        if one < other:
            return place
    return None


def span(one_found, other_found):
    return (max(one_found[0], other_found[0]), lcm(one_found[1] - one_found[0], other_found[1] - other_found[0]))


class ByHand(unittest.TestCase):
    def holds(self, one, other, name, what, most):
        """That it holds, with the pair of the plans' own papers."""
        told = ahead(one, other, name, what, most)
        paper = (again_paper(one, again(one, most)), again_paper(other, again(other, most)))
        self.assertEqual(told, ("holds", paper))
        self.assertEqual([type(part) for part in (told, told[1], told[1][0])], [tuple] * 3)
        self.assertIs(shows_ahead(one, other, name, what, told[1]), True)

    def test_more_at_each_beat(self):
        for what in ("sent", "taken"):
            self.holds(still(2), still(1), "a", what, 2)
            self.holds(still(2), still(1), "a", what, 500)
            self.assertEqual(ahead(still(1), still(2), "a", what, 500), ("fails", 1))
        self.holds(still(2), still(1), "a", "lost", 2)
        self.holds(still(1), still(2), "a", "lost", 2)

    def test_the_paper_by_hand(self):
        def a(good):
            return (((), (), ""),), (("a", 0, (1, 1), (0, 1), 0, None, (), (), good, 0, 0),)

        half = (1, (a(0), a(1), a(1)))
        self.assertEqual(ahead(still(1), still(1), "a", "sent", 9), ("holds", (half, half)))

    def test_what_is_counted(self):
        # Of twice as many sent a way of one place loses more, and as many are taken.
        narrow = ("w", 1, 1, None, "line")
        one, other = still(4, way=narrow), still(2, way=narrow)
        for what in WORDS:
            self.holds(one, other, "a", what, 50)
        self.holds(other, one, "a", "taken", 50)
        self.assertEqual(ahead(other, one, "a", "sent", 50), ("fails", 1))
        self.assertEqual(ahead(other, one, "a", "lost", 50), ("fails", 1))

    def test_lost_alone(self):
        self.holds(of_11(0), still(20), "a", "lost", 50)
        # The window is 21 in round 10, so the first one is lost by round 11.
        self.assertEqual(ahead(still(20), of_11(0), "a", "lost", 50), ("fails", 11))
        self.assertEqual(ahead(still(20), of_11(7), "a", "lost", 50), ("fails", 18))

    def test_most_nought(self):
        self.assertIsNone(ahead(still(1), still(2), "a", "sent", 0))
        self.assertIsNone(ahead(still(2), still(1), "a", "sent", 0))
        self.assertIsNone(ahead(NARROW, NARROW, "a", "sent", 0))

    def test_most_beside_t(self):
        # Both come again by t 2.
        self.assertIsNone(ahead(still(2), still(1), "a", "sent", 1))
        self.assertEqual(ahead(still(1), still(2), "a", "sent", 1), ("fails", 1))
        one, other = still(2, begin=9), still(2, begin=30)
        self.assertEqual((again(one, 99), again(other, 99)), ((10, 11), (31, 32)))
        for what in ("sent", "taken"):
            for most in (10, 11, 31):
                self.assertIsNone(ahead(one, other, "a", what, most))
            self.holds(one, other, "a", what, 32)
            self.assertIsNone(ahead(other, one, "a", what, 9))
            for most in (10, 11, 31, 32, 99):
                self.assertEqual(ahead(other, one, "a", what, most), ("fails", 10))

    def test_a_fail_behind_most(self):
        # n letters are sent ahead of round n, of the other plan 2 * (n - 100); it comes again by t 102.
        one, other = still(1), still(2, begin=100)
        for most in (0, 50, 101):
            self.assertIsNone(ahead(one, other, "a", "sent", most))
        for most in (102, 103, 200, 201, 500):
            self.assertEqual(ahead(one, other, "a", "sent", most), ("fails", 201))

    def test_a_fail_far_behind_most(self):
        one, other = still(19), still(20, begin=1998)
        self.assertEqual(again(other, 2000), (1999, 2000))
        self.assertIsNone(ahead(one, other, "a", "taken", 1999))
        self.assertEqual(ahead(one, other, "a", "taken", 2000), ("fails", 39961))
        narrow = ("w", 1, 1, None, "line")
        one, other = still(59, way=narrow), still(60, begin=1998, way=narrow)
        # The letter that was taken is a new one, so each beat sends as many as the window holds.
        self.assertEqual(totals(one, 3), (("a", 177, 3, 174, 0),))
        self.assertEqual(ahead(one, other, "a", "sent", 2000), ("fails", 60 * 1998 + 1))
        self.assertEqual(ahead(one, other, "a", "lost", 2000), ("fails", 59 * 1998 + 1))

    def test_a_fail_within_a_turn(self):
        # 3 letters every second round, 5 every third one: the least n is not at the begin of a turn.
        for begin in range(25, 50):
            one, other = still(3, beat=2), still(5, beat=3, begin=begin)
            ones = [3 * -(-n // 2) for n in range(2000)]
            others = [5 * max(0, -(-(n - begin) // 3)) for n in range(2000)]
            n = first_fewer(ones, others)
            self.assertGreater(n, 2 * begin)
            self.assertEqual(ahead(one, other, "a", "sent", 60), ("fails", n))

    def test_as_many_but_sooner(self):
        one, other = still(6, beat=6), still(6, beat=6, begin=1)
        self.holds(one, other, "a", "sent", 60)
        self.assertEqual(ahead(other, one, "a", "sent", 60), ("fails", 1))

    def test_a_plan_beside_itself(self):
        for plan in (NARROW, SHARED, HALVED, of_11(3)):
            s, t = again(plan, 100)
            for sender in plan[2]:
                for what in WORDS:
                    self.holds(plan, plan, sender[0], what, t)
                    self.assertIsNone(ahead(plan, plan, sender[0], what, t - 1))

    def test_plans_that_never_come_again_to_most(self):
        one, other = still(1, many=10 ** 6), still(2, begin=100, many=10 ** 6)
        for most in (0, 100, 200):
            self.assertIsNone(ahead(one, other, "a", "sent", most))
            self.assertIsNone(ahead(one, one, "a", "sent", most))
        for most in (201, 202, 300):
            self.assertEqual(ahead(one, other, "a", "sent", most), ("fails", 201))
        # One of them alone is not enough either.
        self.assertIsNone(ahead(still(1), other, "a", "sent", 200))
        self.assertEqual(ahead(still(1), other, "a", "sent", 201), ("fails", 201))
        self.assertIsNone(ahead(one, still(2, begin=100), "a", "sent", 200))
        self.assertEqual(ahead(one, still(2, begin=100), "a", "sent", 201), ("fails", 201))
        self.assertIsNone(ahead(still(1), still(1, begin=10 ** 6), "a", "taken", 2000))
        self.assertEqual(ahead(still(1, begin=10 ** 6), still(1), "a", "taken", 2000), ("fails", 1))

    def test_names_at_other_places(self):
        one = with_idle(still(2), (("b", 3, 4),))
        other = (1, (WIDE,), (("a", ("w",), 1, 0, None, ("still", (9, 1))), ("b", ("w",), 1, 5, 3, ("still", (1, 1))),
                              ("c", ("w",), 1, 0, None, ("still", (1, 1)))))
        self.assertEqual(ahead(one, other, "b", "sent", 90), ("fails", 6))
        self.holds(other, one, "b", "sent", 90)
        self.assertEqual(ahead(one, other, "a", "sent", 90), ("fails", 1))
        lone = (1, (WIDE,), (("b", ("w",), 1, 5, 3, ("still", (1, 1))),))
        self.holds(other, lone, "b", "taken", 90)
        self.holds(lone, other, "b", "taken", 90)

    def test_nothing_is_changed(self):
        one, other = still(3, beat=2), of_11(4)
        before = repr((one, other))
        ahead(one, other, "a", "sent", 60)
        ahead(other, one, "a", "sent", 60)
        self.assertEqual(repr((one, other)), before)


class Rounds(unittest.TestCase):
    """s + p at 5000 and just above it."""

    def test_the_plans(self):
        for late in (380, 381):
            self.assertTrue(is_plan(of_420(20, late)))
            self.assertEqual(again(of_420(20, late), 900), (late, late + 420))
        self.assertTrue(is_plan(of_11(0)))
        self.assertEqual(again(of_11(0), 900)[1] - again(of_11(0), 900)[0], 11)
        self.assertEqual(counts(of_11(5), "a", "sent", 40), [sent_of_11(5, n) for n in range(41)])

    def test_it_holds(self):
        other = of_11(0)
        told = ahead(of_420(20, 380), other, "a", "taken", 900)
        self.assertEqual(told[0], "holds")
        self.assertEqual([(half[0], len(half[1]) - 1) for half in told[1]], [(380, 800), again(other, 900)])
        self.assertIs(shows_ahead(of_420(20, 380), other, "a", "taken", told[1]), True)
        self.assertIsNone(ahead(of_420(20, 380), other, "a", "taken", 799))
        self.assertIsNone(ahead(of_420(20, 381), other, "a", "taken", 900))

    def test_it_fails_behind_most(self):
        # 15 a round beside 16 a round: the lead of the first 300 rounds is used up in the end.
        n = first_fewer([15 * n for n in range(9999)], [sent_of_11(300, n) for n in range(9999)])
        self.assertGreater(n, 4000)
        self.assertEqual(ahead(of_420(15, 380), of_11(300), "a", "sent", 900), ("fails", n))
        self.assertIsNone(ahead(of_420(15, 381), of_11(300), "a", "sent", 900))

    def test_it_fails_to_most(self):
        n = first_fewer([15 * n for n in range(2000)], [sent_of_11(30, n) for n in range(2000)])
        for late in (380, 381):
            self.assertEqual(ahead(of_420(15, late), of_11(30), "a", "sent", 900), ("fails", n))
            self.assertEqual(ahead(of_420(15, late), of_11(30), "a", "sent", n), ("fails", n))
            self.assertIsNone(ahead(of_420(15, late), of_11(30), "a", "sent", n - 1))
        self.assertLess(n, 800)


class Drawn(unittest.TestCase):
    MOST = 60
    WALKED = 200

    def look(self, one, other, name, what):
        """Holds what is told against the rounds one by one; told is a word for what it was."""
        told = ahead(one, other, name, what, self.MOST)
        ones, others = (counts(plan, name, what, self.WALKED) for plan in (one, other))
        founds = (again(one, self.MOST), again(other, self.MOST))
        if None in founds or sum(span(*founds)) > 5000:
            n = first_fewer(ones[:self.MOST + 1], others[:self.MOST + 1])
            self.assertEqual(told, None if n is None else ("fails", n))
            return "unsettled"
        if told[0] == "holds":
            self.assertIsNone(first_fewer(ones, others))
            self.assertEqual(told[1], (again_paper(one, founds[0]), again_paper(other, founds[1])))
            self.assertIs(shows_ahead(one, other, name, what, told[1]), True)
            return "holds"
        n = told[1]
        if self.WALKED < n:
            ones, others = (counts(plan, name, what, n) for plan in (one, other))
        self.assertEqual(first_fewer(ones, others), n)
        paper = (again_paper(one, founds[0]), again_paper(other, founds[1]))
        self.assertIs(shows_ahead(one, other, name, what, paper), False)
        return "late" if n > sum(span(*founds)) else "fails"

    def picked(self, source, one, other):
        """A sender's name and what is counted, such in which the plans come to differ if there are any."""
        pairs = [(sender[0], what) for sender in one[2] for what in WORDS]
        counted = [dict(zip(pairs, [count for row in totals(plan, 40) for count in row[1:4]])) for plan in (one, other)]
        return source.choice([pair for pair in pairs if counted[0][pair] != counted[1][pair]] or pairs)

    def test_pairs(self):
        source = random.Random(50)
        seen = {"unsettled": 0, "holds": 0, "late": 0, "fails": 0}
        for turn in range(250):
            one = drawn.plan(source)
            while not one[2]:
                one = drawn.plan(source)
            other = drawn.plan_beside(source, one)
            if source.random() < 0.5:
                one, other = other, one
            name, what = self.picked(source, one, other)
            seen[self.look(one, other, name, what)] += 1
        for word, least in (("unsettled", 20), ("holds", 50), ("fails", 30)):
            self.assertGreater(seen[word], least, seen)

    def test_late_fails(self):
        source = random.Random(51)
        late = 0
        for turn in range(120):
            windows = sorted([source.randint(1, 20) for count in range(2)])
            one = still(windows[0], beat=source.randint(1, 3))
            other = still(windows[1], beat=source.randint(1, 4), begin=source.randint(1, 30))
            late += self.look(one, other, "a", source.choice(("sent", "taken"))) == "late"
        self.assertGreater(late, 20)


if __name__ == "__main__":
    unittest.main()
