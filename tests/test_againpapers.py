"""Points 18 and 3 (c): papers of states that come again, and the look at them."""

import random
import unittest

import plain
from anything import Awkward, changed, deep, spoiled, things
from swellways.again import again
from swellways.againpapers import again_paper, shows_again
from test_again import FOURS, drawn_plans, idle
from test_letters import HALVED
from test_rounds import EMPTY, NARROW, SHARED

# Fractions of all kinds, a mark, a loss, and what comes from another way.
MIXED = (
    6,
    (("p", 1, 2, None, "turns"), ("q", 1, 2, 1, "line")),
    (("a", ("p", "q"), 1, 0, None, ("heed", (5, 2), (1, 2), (1, 3), (7, 2))),
     ("b", ("p",), 2, 1, None, ("still", (2, 1)))),
)


class Paper(unittest.TestCase):
    def test_by_hand(self):
        def a(due, good, marked, wait):
            return (("a", due, (4, 1), (0, 1), 0, None, (), (), good, marked, wait),)

        stands = (((), (("a", -2, 1, 0, 1), ("a", -1, 1, 0, 1)), ""),)
        self.assertEqual(again_paper(FOURS, (1, 4)), (1, (
            ((EMPTY,), a(0, 0, 0, 0)), (stands, a(2, 0, 2, 0)), ((EMPTY,), a(1, 0, 4, 1)), ((EMPTY,), a(0, 0, 4, 1)),
            (stands, a(2, 0, 2, 0)))))
        self.assertEqual(again_paper((1, NARROW[1], ()), (0, 1)), (0, (((EMPTY,), ()), ((EMPTY,), ()))))

    def test_drawn_papers_are_the_likes_and_are_taken(self):
        source = random.Random(40)
        for plan in drawn_plans(41, 120):
            found = again(plan, 60)
            if found is None:
                continue
            s, t = found
            paper = again_paper(plan, found)
            self.assertEqual(paper, (s, tuple(plain.like(state) for state, counted in plain.walked(plan, t))))
            self.assertIs(shows_again(plan, paper), True)
            # Neither the least s nor the least t is asked for.
            later, turns = source.randint(0, 5), source.randint(1, 3)
            self.assertIs(shows_again(plan, again_paper(plan, (s + later, s + later + turns * (t - s)))), True)
            if t - s > 1:
                self.assertIs(shows_again(plan, again_paper(plan, (s, t + 1))), False)
            if s > 0:
                self.assertIs(shows_again(plan, again_paper(plan, (s - 1, t - 1))), False)

    def test_drawn_papers_spoiled_are_refused(self):
        source = random.Random(42)
        looked = 0
        for plan in drawn_plans(43, 60):
            found = again(plan, 20)
            if found is None:
                continue
            paper = again_paper(plan, found)
            for path, thing in source.sample(changed(paper), 20) + source.sample(spoiled(paper), 20):
                # Where a state is followed by its own like, one more of them is no fault.
                if path != (1,) or found[1] - found[0] > 1:
                    looked += 1
                    self.assertIs(shows_again(plan, thing), False, (plan, path))
        self.assertGreater(looked, 1000)

    def test_told_things_are_tuples(self):
        paper = again_paper(MIXED, again(MIXED, 200))
        self.assertEqual([type(part) for part in (paper, paper[1], paper[1][0])], [tuple] * 3)


class Look(unittest.TestCase):
    def papers(self):
        """Pairs of a plan and a paper of it."""
        return [(plan, again_paper(plan, again(plan, 200))) for plan in (FOURS, NARROW, SHARED, HALVED, MIXED)]

    def refused(self, plan, thing, words=None):
        before = repr(plan), repr(thing)
        self.assertIs(shows_again(plan, thing), False, words)
        self.assertEqual((repr(plan), repr(thing)), before)

    def test_right_ones(self):
        for plan, paper in self.papers():
            before = repr(paper)
            self.assertIs(shows_again(plan, paper), True)
            self.assertEqual(repr(paper), before)
            s, t = again(plan, 200)
            self.assertGreater(t - s, 1)
            for later in range(4):
                self.assertIs(shows_again(plan, again_paper(plan, (s + later, t + later))), True)
                self.assertIs(shows_again(plan, again_paper(plan, (s + later, 3 * t - 2 * s + later))), True)

    def test_without_senders(self):
        plan = (1, NARROW[1], ())
        like = ((EMPTY,), ())
        for s in range(4):
            for many in range(7):
                self.assertIs(shows_again(plan, (s, (like,) * many)), s < many - 1)

    def test_another_s(self):
        for plan, paper in self.papers():
            t = len(paper[1]) - 1
            for s in range(-t - 2, t + 3):
                self.assertIs(shows_again(plan, (s, paper[1])), s == paper[0])

    def test_s_of_another_kind(self):
        for plan, paper in self.papers():
            for s in [None, float(paper[0]), str(paper[0]), (paper[0],), [paper[0]], Awkward(), True, False]:
                self.refused(plan, (s, paper[1]))

    def test_a_truth_for_s(self):
        self.assertIs(shows_again(FOURS, (1, again_paper(FOURS, (1, 4))[1])), True)
        self.refused(FOURS, (True, again_paper(FOURS, (1, 4))[1]))
        self.assertIs(shows_again(idle(0, 2), (0, again_paper(idle(0, 2), (0, 2))[1])), True)
        self.refused(idle(0, 2), (False, again_paper(idle(0, 2), (0, 2))[1]))

    def test_too_few_and_too_many(self):
        for plan, paper in self.papers():
            s, likes = paper
            more = again_paper(plan, (s, len(likes)))[1]
            for wrong in (likes[:-1], likes[1:], more, more[1:], likes + likes[-1:], likes[:1] + likes, likes + (None,),
                          likes[:1], (), likes[s:]):
                # With s 0 nothing is left out ahead of it.
                if wrong != likes:
                    self.refused(plan, (s, wrong), (plan, len(wrong)))

    def test_one_like_alone(self):
        for plan, (s, likes) in self.papers():
            self.refused(plan, (0, likes[:1]))
            self.refused(plan, (-1, likes[:1]))

    def test_changed_in_one_place(self):
        for plan, paper in self.papers():
            for path, thing in changed(paper):
                self.assertIs(shows_again(plan, thing), False, path)

    def test_spoiled_in_one_place(self):
        for plan, paper in self.papers():
            for path, thing in spoiled(paper):
                self.assertIs(shows_again(plan, thing), False, path)

    def test_the_states_in_the_place_of_their_likes(self):
        for plan, paper in self.papers():
            states = [state for state, counted in plain.walked(plan, len(paper[1]) - 1)]
            self.refused(plan, (paper[0], tuple(states)))
            self.refused(plan, (paper[0], paper[1][:-1] + (states[-1],)))

    def test_truths_for_numbers_and_fractions_not_in_lowest_terms(self):
        s, likes = again_paper(FOURS, (1, 4))
        ways, senders = likes[1]
        sender = senders[0]
        for place, wrong in ((2, (8, 2)), (2, (4, True)), (2, [4, 1]), (2, (4.0, 1)), (3, (0, 2)), (3, (False, 1)),
                             (3, (0, -1)), (4, False), (8, False), (5, 0), (5, False), (6, []), (7, None)):
            other = sender[:place] + (wrong,) + sender[place + 1:]
            self.refused(FOURS, (s, likes[:1] + ((ways, (other,)),) + likes[2:4] + ((ways, (other,)),)))
        letter = ways[0][1][0]
        for place, wrong in ((1, -1), (2, True), (3, False), (4, True), (4, 1.0), (0, "b"), (0, b"a")):
            other = letter[:place] + (wrong,) + letter[place + 1:]
            like = ((((), (other, ways[0][1][1]), ""),), senders)
            self.refused(FOURS, (s, likes[:1] + (like,) + likes[2:4] + (like,)))

    def test_lists_for_tuples(self):
        for plan, (s, likes) in self.papers():
            self.refused(plan, [s, likes])
            self.refused(plan, (s, list(likes)))
            self.refused(plan, (s, tuple([list(like) for like in likes])))
            self.refused(plan, (s, dict(enumerate(likes))))
            self.refused(plan, (s, iter(likes)))
            self.refused(plan, (s, likes, None))
            self.refused(plan, (s,))
            self.refused(plan, ((s, likes),))
            self.refused(plan, likes)

    def test_anything(self):
        for plan, paper in self.papers():
            for thing in things() + [deep(tuple), deep(list), repr(paper)]:
                self.refused(plan, thing)
                self.refused(plan, (paper[0], thing))
                if repr(thing) != repr(paper[0]):
                    self.refused(plan, (thing, paper[1]))
                self.refused(plan, (0, (thing, thing)))
                self.refused(plan, (paper[0], paper[1][:-1] + (thing,)))

    def test_papers_of_other_plans(self):
        papers = self.papers()
        for plan, paper in papers:
            for other, also in papers:
                self.assertIs(shows_again(plan, also), plan == other)

    def test_a_ring_that_is_none_of_the_plan(self):
        # Each like makes the next one and the last is the first, but the plan doesn't begin there.
        s, likes = again_paper(FOURS, (1, 4))
        self.refused(FOURS, (0, likes[1:]))
        self.assertIs(shows_again(FOURS, (s, likes)), True)

    def test_long_papers(self):
        plan = idle(1990, 8)
        found = (1983, 1991)
        self.assertEqual(again(plan, 2000), found)
        self.assertIs(shows_again(plan, again_paper(plan, found)), True)
        self.assertIs(shows_again(plan, again_paper(plan, (1983, 3991))), True)
        self.assertIs(shows_again(plan, again_paper(plan, (1983, 3990))), False)


if __name__ == "__main__":
    unittest.main()
