"""Point 16: the like of a state."""

import random
import unittest

import drawn
import plain
from swellways.likes import first_like, like_behind, like_of
from swellways.rounds import begun, stepped
from swellways.runs import run
from test_letters import HALVED
from test_rounds import EMPTY, NARROW, SHARED


class Like(unittest.TestCase):
    def test_at_first_it_is_the_state(self):
        for plan in (NARROW, SHARED, HALVED, (1, SHARED[1], ())):
            self.assertEqual(like_of(begun(plan)), begun(plan))
            self.assertEqual(first_like(plan), begun(plan))

    def test_standing_coming_and_lost(self):
        self.assertEqual(like_of(run(NARROW, 1)[0]), (
            (((), (("a", -2, 1, 0, 1),), ""),), (("a", 1, (3, 1), (0, 1), 0, 1, (), (-1,), 1, 0, 0),)))
        self.assertEqual(like_of(run(SHARED, 3)[0]), (
            (((), (("b", -2, 2, 0, 0), ("a", -1, 1, 0, 0)), "a"), ((("a", -2, 3, 1, 0),), (), "")),
            (("a", 0, (2, 1), (0, 1), 0, None, (), (), 0, 0, 0), ("b", 0, (2, 1), (0, 1), 0, None, (), (-1,), 0, 0, 0),
             ("c", 0, (2, 1), (0, 1), 0, None, (), (), 0, 2, 0))))

    def test_again(self):
        state = run(HALVED, 2)[0]
        self.assertEqual(state[1][0][4:8], (4, None, (3,), (2,)))
        self.assertEqual(like_of(state), ((EMPTY,), (("a", 0, (2, 1), (0, 1), 0, None, (-1,), (-2,), 1, 0, 0),)))

    def test_all_else_stays(self):
        state = ((((("b", 7, 3, 1, 1),), (("a", 4, 9, 0, 1), ("b", 6, 2, 0, 0)), "b"), EMPTY),
                 (("a", None, (7, 2), (1, 3), 9, 5, (1, 3), (2, 8), 4, 5, 6),
                  ("b", 3, (1, 1), (0, 1), 100, None, (), (), 0, 0, 0)))
        self.assertEqual(like_of(state), (
            (((("b", -93, 3, 1, 1),), (("a", -5, 9, 0, 1), ("b", -94, 2, 0, 0)), "b"), EMPTY),
            (("a", None, (7, 2), (1, 3), 0, 5, (-8, -6), (-7, -1), 4, 5, 6),
             ("b", 3, (1, 1), (0, 1), 0, None, (), (), 0, 0, 0))))

    def test_of_a_like_it_is_the_same(self):
        for many in range(9):
            like = like_of(run(SHARED, many)[0])
            self.assertEqual(like_of(like), like)

    def test_moved_states_have_one_like(self):
        state = run(SHARED, 7)[0]
        other = plain.moved(state, {"a": 5, "b": -900, "c": 10 ** 9})
        self.assertNotEqual(other, state)
        self.assertEqual(like_of(other), like_of(state))

    def test_left_is_part_of_it(self):
        # As the letters that are left grow fewer no like is that of an earlier state.
        plan = (1, (("w", 9, 9, None, "line"),), (("a", ("w",), 1, 0, 5, ("still", (1, 1))),))
        likes = [like_of(run(plan, many)[0]) for many in range(7)]
        self.assertEqual(len(set(likes)), 7)

    def test_drawn_likes_go_on_as_the_states_do(self):
        source = random.Random(33)
        for turn in range(60):
            plan = drawn.plan(source)
            state = begun(plan)
            like = first_like(plan)
            for count in range(40):
                before = {kept[0]: kept[4] for kept in state[1]}
                also = stepped(plan, like)[1]
                like = like_behind(plan, like)
                state, told = stepped(plan, state)
                self.assertEqual(like, like_of(state))
                self.assertEqual(like, plain.like(state))
                self.assertEqual(also, [(word, name, number - before[name], way) for word, name, number, way in told])

    def test_nothing_is_changed(self):
        state = run(SHARED, 5)[0]
        before = repr(state)
        like_of(state)
        self.assertEqual(repr(state), before)


if __name__ == "__main__":
    unittest.main()
