"""Points 16, 17 and 3 (c): states that come again, and what is told of any later round."""

import random
import unittest

import drawn
import plain
from swellways.again import again, told_at
from swellways.runs import totals
from test_letters import HALVED
from test_rounds import NARROW, SHARED

WIDE = (("w", 2, 9, 0, "line"),)
STILL = ("still", (4, 1))
# Four letters every third round, two a round let out, all marked.
FOURS = (1, WIDE, (("a", ("w",), 3, 0, None, STILL),))


def idle(begin, beat):
    """A plan of a sender that sends nothing: only its beats go round."""
    return (1, WIDE, (("a", ("w",), beat, begin, 0, STILL),))


def drawn_plans(seed, many):
    source = random.Random(seed)
    return [drawn.plan(source) for turn in range(many)]


class Again(unittest.TestCase):
    def edge(self, plan, found):
        """The state comes again by t and not below it."""
        self.assertIsNone(again(plan, 0))
        self.assertIsNone(again(plan, found[1] - 1))
        for most in (found[1], found[1] + 1, found[1] + 50):
            told = again(plan, most)
            self.assertEqual(told, found)
            self.assertIs(type(told), tuple)

    def test_without_senders(self):
        self.edge((1, WIDE, ()), (0, 1))
        self.edge((60, SHARED[1], ()), (0, 1))

    def test_beats_alone(self):
        self.edge(idle(0, 1), (0, 1))
        self.edge(idle(5, 1), (5, 6))
        self.edge(idle(0, 8), (0, 8))
        self.edge(idle(5, 3), (3, 6))
        self.edge(idle(2, 3), (0, 3))

    def test_beats_of_several(self):
        senders = tuple([(name, ("w",), beat, 0, 0, STILL) for name, beat in (("a", 2), ("b", 3), ("c", 7))])
        self.edge((1, WIDE, senders), (0, 42))

    def test_numbers_go_on_and_the_likes_do_not(self):
        self.edge((1, WIDE, (("a", ("w",), 1, 0, None, ("still", (1, 1))),)), (1, 2))
        # Ahead of round 1 four were sent and two stand, ahead of round 4 again.
        self.edge(FOURS, (1, 4))

    def test_letters_without_end_and_with_one(self):
        self.edge(NARROW, (7, 9))

    def test_against_all_pairs(self):
        self.edge(SHARED, plain.again(SHARED, 60))
        self.edge(HALVED, plain.again(HALVED, 60))

    def test_none_to_most(self):
        late = (1, WIDE, (("a", ("w",), 1, 10 ** 6, None, STILL),))
        self.assertIsNone(again(late, 300))
        long = (1, WIDE, (("a", ("w",), 1, 0, 10 ** 6, STILL),))
        self.assertIsNone(again(long, 300))

    def test_as_far_as_2000(self):
        self.edge(idle(1999, 1), (1999, 2000))

    def test_drawn(self):
        came = 0
        for plan in drawn_plans(34, 150):
            found = plain.again(plan, 60)
            self.assertEqual(again(plan, 60), found, plan)
            if found is not None:
                came += 1
                self.assertIsNone(again(plan, found[1] - 1))
                self.assertEqual(again(plan, found[1]), found)
        self.assertGreater(came, 75)
        self.assertLess(came, 150)


class Told(unittest.TestCase):
    def test_by_hand(self):
        rows = [
            ((("a", (3, 1), 0, 0, 0, 0),), (("w", 0),)),
            ((("a", (3, 1), 3, 1, 1, 0),), (("w", 1),)),
            ((("a", (3, 1), 3, 2, 1, 1),), (("w", 0),)),
            ((("a", (3, 2), 4, 3, 1, 1),), (("w", 0),)),
            ((("a", (3, 2), 4, 3, 1, 1),), (("w", 0),)),
            ((("a", (5, 2), 5, 4, 1, 1),), (("w", 0),)),
            ((("a", (5, 2), 5, 4, 1, 1),), (("w", 0),)),
            ((("a", (7, 2), 5, 4, 1, 1),), (("w", 0),)),
        ]
        for n in range(8):
            self.assertEqual(told_at(NARROW, None, n), rows[n])
            self.assertEqual(told_at(NARROW, (7, 9), n), rows[n])
        for n in (8, 9, 10, 11, 2000, 123456789, 10 ** 30):
            self.assertEqual(told_at(NARROW, (7, 9), n), rows[7])

    def test_several_ways_and_senders(self):
        self.assertEqual(told_at(SHARED, None, 1), (
            (("a", (2, 1), 2, 0, 0, 0), ("b", (2, 1), 2, 0, 1, 0), ("c", (2, 1), 0, 0, 0, 0)), (("p", 2), ("q", 0))))
        self.assertEqual(told_at(SHARED, again(SHARED, 60), 2)[0], (
            ("a", (2, 1), 2, 1, 0, 1), ("b", (2, 1), 3, 1, 1, 0), ("c", (2, 1), 2, 1, 1, 1)))

    def test_without_senders(self):
        for n in (0, 1, 2, 7, 10 ** 12):
            self.assertEqual(told_at((1, SHARED[1], ()), (0, 1), n), ((), (("p", 0), ("q", 0))))
        self.assertEqual(told_at((1, SHARED[1], ()), None, 5), ((), (("p", 0), ("q", 0))))

    def test_however_far(self):
        found = (1, 4)
        self.assertEqual(again(FOURS, 9), found)
        for turns in (0, 1, 2, 333333333, 10 ** 9, 10 ** 40):
            n, four = 3 * turns, 4 * turns
            self.assertEqual(told_at(FOURS, found, n), ((("a", (4, 1), four, four, 0, four),), (("w", 0),)))
            self.assertEqual(told_at(FOURS, found, n + 1),
                             ((("a", (4, 1), four + 4, four + 2, 0, four + 2),), (("w", 2),)))
            self.assertEqual(told_at(FOURS, found, n + 2),
                             ((("a", (4, 1), four + 4, four + 4, 0, four + 4),), (("w", 0),)))

    def test_the_greatest_n_without_a_state_that_comes_again(self):
        plan = (1, WIDE, (("a", ("w",), 1, 0, 10 ** 6, ("still", (1, 1))),))
        self.assertEqual(told_at(plan, None, 2000), ((("a", (1, 1), 2000, 2000, 0, 2000),), (("w", 0),)))

    def test_lists_are_none_and_nothing_is_changed(self):
        before = repr((FOURS, HALVED))
        for plan in (FOURS, HALVED):
            for n in (0, 1, 100):
                told = told_at(plan, again(plan, 60), n)
                self.assertEqual([type(part) for part in (told, told[0], told[1], told[0][0], told[1][0])], [tuple] * 5)
        self.assertEqual(repr((FOURS, HALVED)), before)

    def test_drawn_beside_the_rounds_one_by_one(self):
        source = random.Random(35)
        for plan in drawn_plans(36, 120):
            found = again(plan, 60)
            pairs = plain.walked(plan, 200)
            edges = [0, 1, 59, 60, 61, 199, 200] + [source.randint(0, 200) for turn in range(4)]
            if found is not None:
                s, t = found
                edges += [max(0, s - 1), s, s + 1, t - 1, t, t + 1, 2 * t - s - 1, 2 * t - s, 2 * t - s + 1]
            for n in edges:
                self.assertEqual(told_at(plan, found, n), plain.told(plan, pairs[n]), (plan, found, n))
            n = source.randint(0, 200)
            self.assertEqual(tuple(row[:1] + row[2:] for row in told_at(plan, found, n)[0]), totals(plan, n))

    def test_drawn_far_rounds(self):
        source = random.Random(37)
        for plan in drawn_plans(38, 60):
            found = again(plan, 60)
            if found is None:
                continue
            s, t = found
            n = source.choice([10 ** 9, 10 ** 9 - 1, 987654321, 10 ** 20 + 7])
            turns, rest = divmod(n - s, t - s)
            pairs = plain.walked(plan, t)
            here, first, last = (plain.told(plan, pairs[place]) for place in (s + rest, s, t))
            told = told_at(plan, found, n)
            self.assertEqual(told[1], here[1])
            for row, at_rest, begin, end in zip(told[0], here[0], first[0], last[0]):
                self.assertEqual(row[:2], at_rest[:2])
                self.assertEqual(row[2:], tuple(at_rest[k] + turns * (end[k] - begin[k]) for k in range(2, 6)))


if __name__ == "__main__":
    unittest.main()
