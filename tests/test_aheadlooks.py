"""Points 22 and 3 (g): the look at papers that show that a plan is ahead of another one."""

import random
import unittest

import drawn
from anything import Awkward, changed, deep, spoiled, things
from swellways.again import again
from swellways.againpapers import again_paper
from swellways.ahead import ahead
from swellways.aheadlooks import shows_ahead
from test_again import idle
from test_ahead import WORDS, counts, first_fewer, of_11, of_420, span, still
from test_letters import HALVED
from test_rounds import NARROW, SHARED

ONE = still(3, beat=2)
OTHER = still(2, beat=3, begin=1)


def papers(one, one_found, other, other_found):
    return (again_paper(one, one_found), again_paper(other, other_found))


def later(found, rounds, turns):
    """Another (s, t) of a plan: so many rounds later, t so many turns behind s."""
    s, t = found
    return (s + rounds, s + rounds + turns * (t - s))


class Look(unittest.TestCase):
    def setUp(self):
        self.paper = ahead(ONE, OTHER, "a", "sent", 60)[1]

    def refused(self, thing, words=None):
        before = repr(thing)
        for what in ("sent", "taken"):
            self.assertIs(shows_ahead(ONE, OTHER, "a", what, thing), False, words)
        self.assertEqual(repr(thing), before)

    def test_right_ones(self):
        before = repr((ONE, OTHER, self.paper))
        for what in WORDS:
            self.assertIs(shows_ahead(ONE, OTHER, "a", what, self.paper), True)
        self.assertEqual(repr((ONE, OTHER, self.paper)), before)
        for plan in (NARROW, SHARED, HALVED):
            half = again_paper(plan, again(plan, 99))
            for sender in plan[2]:
                for what in WORDS:
                    self.assertIs(shows_ahead(plan, plan, sender[0], what, (half, half)), True)

    def test_any_s_and_t(self):
        founds = (again(ONE, 60), again(OTHER, 60))
        for turn in range(40):
            moves = (later(founds[0], turn % 7, 1 + turn % 3), later(founds[1], turn % 11, 1 + turn % 5))
            paper = papers(ONE, moves[0], OTHER, moves[1])
            self.assertIs(shows_ahead(ONE, OTHER, "a", "sent", paper), True)
            self.assertIs(shows_ahead(OTHER, ONE, "a", "sent", paper[::-1]), False)

    def test_right_papers_that_show_it_fails(self):
        # Fewer from the first round on, in one round alone, and in the end.
        for one, other in ((still(1), still(2)), (still(6, beat=6, begin=1), still(6, beat=6)),
                           (still(20, begin=1), still(19)), (still(1), still(2, begin=100))):
            paper = papers(one, again(one, 200), other, again(other, 200))
            self.assertIs(shows_ahead(one, other, "a", "sent", paper), False)
            self.assertIs(shows_ahead(one, other, "a", "taken", paper), False)

    def test_less_comes_to_it(self):
        # To s + p the one has more, yet it loses one a round.
        one, other = still(1), still(2, begin=100)
        for turns in (1, 2, 50, 99):
            moves = later(again(other, 200), 0, turns)
            paper = papers(one, again(one, 200), other, moves)
            ones, others = (counts(plan, "a", "sent", moves[1]) for plan in (one, other))
            self.assertIsNone(first_fewer(ones, others))
            self.assertIs(shows_ahead(one, other, "a", "sent", paper), False)

    def test_fewer_ahead_of_s_alone(self):
        # The other plan sends its few letters at once, and is passed by long before the states come again.
        one, other = still(3, begin=5), still(1, many=4)
        paper = papers(one, later(again(one, 99), 20, 1), other, later(again(other, 99), 20, 1))
        self.assertIs(shows_ahead(one, other, "a", "sent", paper), False)
        self.assertEqual(ahead(one, other, "a", "sent", 99), ("fails", 1))

    def test_fewer_in_a_turn_alone(self):
        # Three at once every third round beside one each round, the begins such that the first is behind for a round.
        one, other = still(3, beat=3, begin=2), still(1, begin=1)
        paper = papers(one, again(one, 99), other, again(other, 99))
        self.assertEqual(ahead(one, other, "a", "sent", 99), ("fails", 2))
        self.assertIs(shows_ahead(one, other, "a", "sent", paper), False)
        one = still(3, beat=3, begin=1)
        paper = papers(one, again(one, 99), other, again(other, 99))
        self.assertIs(shows_ahead(one, other, "a", "sent", paper), True)

    def test_fewer_behind_s_alone(self):
        # 21, 11, 12 letters and so on to 21, so 176 in a turn of 11 rounds, beside 16 each round.
        one = (1, still(1)[1], (("a", ("w",), 1, 0, None, ("step", (21, 1), (1, 1), (11, 21), (60, 1))),))
        other = still(16)
        self.assertEqual((again(one, 99), again(other, 99)), ((1, 12), (1, 2)))
        ones, others = (counts(plan, "a", "sent", 12) for plan in (one, other))
        self.assertEqual([mine - theirs for mine, theirs in zip(ones, others)],
                         [0, 5, 0, -4, -7, -9, -10, -10, -9, -7, -4, 0, 5])
        self.assertEqual(ahead(one, other, "a", "sent", 99), ("fails", 3))
        paper = papers(one, (1, 12), other, (1, 2))
        self.assertIs(shows_ahead(one, other, "a", "sent", paper), False)

    def test_each_count_by_itself(self):
        paper = papers(of_11(0), again(of_11(0), 99), still(20), again(still(20), 99))
        self.assertEqual([shows_ahead(of_11(0), still(20), "a", what, paper) for what in WORDS], [False, False, True])
        self.assertEqual([shows_ahead(still(20), of_11(0), "a", what, paper[::-1]) for what in WORDS],
                         [True, True, False])

    def test_5000_rounds(self):
        one, other = still(2), still(1)
        for s, shows in ((1, True), (29, True), (30, True), (31, False), (500, False)):
            # 70 and 71 rounds, so 4970 for both.
            for moves in (((1, 71), (s, s + 71)), ((s, s + 70), (1, 72)), ((s, s + 71), (s, s + 70))):
                self.assertIs(shows_ahead(one, other, "a", "sent", papers(one, moves[0], other, moves[1])), shows)

    def test_the_least_number_that_both_divide(self):
        one, other = still(2), still(1)
        # 600 and 900 rounds, so 1800 for both; the product would be far above 5000.
        paper = papers(one, (3, 603), other, (3, 903))
        self.assertIs(shows_ahead(one, other, "a", "sent", paper), True)

    def test_5000_rounds_of_least_papers(self):
        for late, shows in ((380, True), (381, False)):
            one, other = of_420(20, late), of_11(0)
            paper = papers(one, again(one, 900), other, again(other, 900))
            self.assertIs(shows_ahead(one, other, "a", "sent", paper), shows)

    def test_long_papers(self):
        one, other = idle(1990, 8), idle(0, 1)
        paper = papers(one, (1983, 3991), other, (0, 1))
        self.assertIs(shows_ahead(one, other, "a", "lost", paper), True)
        self.assertIs(shows_ahead(one, other, "a", "lost", papers(one, (1983, 3990), other, (0, 1))), False)

    def test_papers_of_other_plans(self):
        half = again_paper(NARROW, again(NARROW, 99))
        one, other = self.paper
        for wrong in ((half, other), (one, half), (half, half), (other, one), (one, one), (other, other)):
            self.refused(wrong)

    def test_how_many(self):
        one, other = self.paper
        for wrong in (one, other, (one,), (other,), (one, other, other), (one, other, None), (one, other, ()), (),
                      (self.paper,), (self.paper, self.paper), one + other, (one, (other,)), ((one,), (other,))):
            self.refused(wrong)

    def test_lists_for_tuples(self):
        one, other = self.paper
        for wrong in ([one, other], (list(one), other), (one, list(other)), ((one[0], list(one[1])), other),
                      (one, (other[0], list(other[1]))), {0: one, 1: other}, {one: 0, other: 1}, iter(self.paper)):
            self.refused(wrong)

    def test_another_s(self):
        one, other = self.paper
        for s in list(range(-9, one[0])) + list(range(one[0] + 1, 9)) + [None, True, False, "1", 1.0]:
            self.refused(((s, one[1]), other), s)
        for s in list(range(-9, other[0])) + list(range(other[0] + 1, 9)) + [None, True, False, "1", 1.0]:
            self.refused((one, (s, other[1])), s)

    def test_changed_and_spoiled_in_one_place(self):
        for path, thing in changed(self.paper) + spoiled(self.paper):
            self.assertIs(shows_ahead(ONE, OTHER, "a", "sent", thing), False, path)

    def test_anything(self):
        one, other = self.paper
        for thing in things() + [deep(tuple), deep(list), Awkward(), repr(self.paper)]:
            for wrong in (thing, (thing, thing), (one, thing), (thing, other), ((one[0], thing), other),
                          (one, (other[0], other[1][:-1] + (thing,)))):
                self.refused(wrong)


class Drawn(unittest.TestCase):
    def test_what_is_taken_holds(self):
        source = random.Random(52)
        seen = {True: 0, False: 0}
        for turn in range(150):
            one = drawn.plan(source)
            other = drawn.plan_beside(source, one)
            if source.random() < 0.5:
                one, other = other, one
            founds = (again(one, 40), again(other, 40))
            if None in founds or not one[2]:
                continue
            moves = [later(found, source.randint(0, 9), source.randint(1, 3)) for found in founds]
            paper = papers(one, moves[0], other, moves[1])
            for sender in one[2]:
                for what in WORDS:
                    shows = shows_ahead(one, other, sender[0], what, paper)
                    told = ahead(one, other, sender[0], what, 40)
                    if sum(span(*moves)) > 5000:
                        self.assertIs(shows, False)
                    else:
                        self.assertIs(shows, told[0] == "holds")
                    seen[shows] += 1
        self.assertGreater(min(seen.values()), 50, seen)

    def test_what_is_spoiled_is_refused(self):
        source = random.Random(53)
        looked = 0
        for turn in range(60):
            one = drawn.plan(source)
            founds = (again(one, 20), again(one, 20))
            if None in founds or not one[2]:
                continue
            paper = papers(one, founds[0], one, founds[1])
            for path, thing in source.sample(changed(paper), 10) + source.sample(spoiled(paper), 10):
                # Where a state is followed by its own like, one more of them is no fault.
                if path[1:] != (1,) or founds[0][1] - founds[0][0] > 1:
                    looked += 1
                    self.assertIs(shows_ahead(one, one, one[2][0][0], "sent", thing), False, (one, path))
        self.assertGreater(looked, 500)


if __name__ == "__main__":
    unittest.main()
