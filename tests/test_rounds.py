"""Points 12, 13, 14, and 3 (a), (b): the state at first, and rounds."""

import random
import unittest

import drawn
import plain
from swellways.fractions import floor_of
from swellways.plans import is_plan
from swellways.rounds import begun, stepped

STILL = ("still", (2, 1))
EMPTY = ((), (), "")
# One way that is soon full, and a sender of four letters.
NARROW = (2, (("w", 1, 2, 1, "line"),), (("a", ("w",), 2, 0, 4, ("step", (3, 1), (1, 1), (1, 2), (10, 1))),))
# Two ways, one by turns and one that marks all, and three senders that share them.
SHARED = (
    1,
    (("p", 1, 3, None, "turns"), ("q", 2, 2, 0, "line")),
    (("a", ("p", "q"), 1, 0, None, STILL), ("b", ("p",), 1, 0, None, STILL), ("c", ("q",), 1, 1, None, STILL)),
)


def events(*words):
    """Events, each written as a text of word, name, number and way."""
    parts = [word.split() for word in words]
    return [(one, name, int(number), way) for one, name, number, way in parts]


class ByHand(unittest.TestCase):
    def go(self, plan, rows):
        """Plays round by round against rows of (state behind, events); told is the last state."""
        self.assertIs(is_plan(plan), True)
        state = begun(plan)
        for count, row in enumerate(rows):
            told = stepped(plan, state)
            self.assertEqual(told[1], row[1], f"events of round {count}")
            self.assertEqual(told[0], row[0], f"state behind round {count}")
            self.assertIs(type(told), tuple)
            self.assertIs(type(told[1]), list)
            state = told[0]
        return state

    def test_at_first(self):
        self.assertEqual(begun(NARROW), ((EMPTY,), (("a", 0, (3, 1), (0, 1), 0, 4, (), (), 0, 0, 0),)))
        self.assertEqual(begun(SHARED), ((EMPTY, EMPTY), (
            ("a", 0, (2, 1), (0, 1), 0, None, (), (), 0, 0, 0),
            ("b", 0, (2, 1), (0, 1), 0, None, (), (), 0, 0, 0),
            ("c", 1, (2, 1), (0, 1), 0, None, (), (), 0, 0, 0))))
        self.assertEqual(begun((1, NARROW[1], ())), ((EMPTY,), ()))
        late = (1, NARROW[1], (("a", ("w",), 8, 10 ** 6, 10 ** 6, ("still", (5, 2))),))
        self.assertEqual(begun(late), ((EMPTY,), (("a", 10 ** 6, (2, 1), (0, 1), 0, 10 ** 6, (), (), 0, 0, 0),)))

    def test_lost_marked_and_sent_again(self):
        def a(*parts):
            return (("a",) + parts,)

        self.go(NARROW, [
            (((((), (("a", 1, 1, 0, 1),), ""),), a(1, (3, 1), (0, 1), 3, 1, (), (2,), 1, 0, 0)),
             events("sent a 0 w", "sent a 1 w", "sent a 2 w", "in a 0 w", "in a 1 w", "lost a 2 w", "taken a 0 w")),
            (((EMPTY,), a(0, (3, 1), (0, 1), 3, 1, (), (2,), 1, 1, 1)), events("taken a 1 w")),
            (((EMPTY,), a(1, (3, 2), (0, 1), 3, 1, (), (), 1, 0, 0)), events("sent a 2 w", "in a 2 w", "taken a 2 w")),
            (((EMPTY,), a(0, (3, 2), (0, 1), 3, 1, (), (), 1, 0, 0)), []),
            (((EMPTY,), a(1, (5, 2), (0, 1), 4, 0, (), (), 1, 0, 0)), events("sent a 3 w", "in a 3 w", "taken a 3 w")),
            (((EMPTY,), a(0, (5, 2), (0, 1), 4, 0, (), (), 1, 0, 0)), []),
            (((EMPTY,), a(1, (7, 2), (0, 1), 4, 0, (), (), 0, 0, 0)), []),
            (((EMPTY,), a(0, (7, 2), (0, 1), 4, 0, (), (), 0, 0, 0)), []),
            (((EMPTY,), a(1, (7, 2), (0, 1), 4, 0, (), (), 0, 0, 0)), []),
        ])

    def test_several_senders_on_several_ways(self):
        def senders(*rows):
            return tuple([(name, 0, (2, 1), (0, 1)) + row for name, row in zip("abc", rows)])

        self.go(SHARED, [
            (((((), (("b", 0, 1, 0, 0), ("a", 1, 1, 0, 0)), "a"), ((("a", 0, 1, 1, 0),), (), "")),
              senders((2, None, (), (), 0, 0, 0), (2, None, (), (1,), 0, 0, 0), (0, None, (), (), 0, 0, 0))),
             events("sent a 0 p", "sent b 0 p", "sent a 1 p", "sent b 1 p",
                    "in a 0 p", "in b 0 p", "in a 1 p", "lost b 1 p", "out a 0 p")),
            (((((), (("a", 1, 2, 0, 0), ("b", 1, 1, 0, 0)), "b"), EMPTY),
              senders((2, None, (), (), 0, 1, 0), (2, None, (), (), 1, 0, 1), (2, None, (), (1,), 0, 1, 0))),
             events("sent b 1 p", "sent c 0 q", "sent c 1 q", "in b 1 p", "taken b 0 p",
                    "in a 0 q", "in c 0 q", "lost c 1 q", "taken a 0 q", "taken c 0 q")),
            (((((), (("b", 1, 2, 0, 0), ("a", 2, 1, 0, 0)), "a"), ((("a", 1, 3, 1, 0),), (), "")),
              senders((3, None, (), (), 0, 0, 0), (3, None, (), (2,), 0, 0, 0), (3, None, (), (), 0, 2, 0))),
             events("sent a 2 p", "sent b 2 p", "sent c 1 q", "sent c 2 q", "in a 2 p", "lost b 2 p", "out a 1 p",
                    "in c 1 q", "in c 2 q", "taken c 1 q", "taken c 2 q")),
            (((((), (("a", 2, 2, 0, 0), ("b", 2, 1, 0, 0)), "b"), EMPTY),
              senders((3, None, (), (), 0, 1, 2), (3, None, (), (), 1, 0, 2), (5, None, (), (4,), 0, 1, 0))),
             events("sent b 2 p", "sent c 3 q", "sent c 4 q", "in b 2 p", "taken b 1 p",
                    "in a 1 q", "in c 3 q", "lost c 4 q", "taken a 1 q", "taken c 3 q")),
        ])

    def test_letters_of_earlier_ways_come_ahead(self):
        ways = (("z", 9, 9, None, "line"), ("y", 9, 9, None, "line"), ("x", 9, 9, None, "line"))
        plan = (1, ways, (("a", ("y", "x"), 8, 0, 1, STILL), ("b", ("z", "x"), 8, 0, 1, STILL),
                          ("c", ("z", "y", "x"), 8, 0, 1, STILL)))
        state, told = stepped(plan, begun(plan))
        self.assertEqual(told, events("sent a 0 y", "sent b 0 z", "sent c 0 z", "in b 0 z", "in c 0 z", "out b 0 z",
                                      "out c 0 z", "in a 0 y", "out a 0 y"))
        self.assertEqual([way[0] for way in state[0]],
                         [(), (("c", 0, 1, 1, 0),), (("b", 0, 1, 1, 0), ("a", 0, 1, 1, 0))])
        state, told = stepped(plan, state)
        self.assertEqual(told, events("in c 0 y", "out c 0 y", "in b 0 x", "in a 0 x", "taken b 0 x", "taken a 0 x"))
        state, told = stepped(plan, state)
        self.assertEqual(told, events("in c 0 x", "taken c 0 x"))
        self.assertEqual([one[8:] for one in state[1]], [(1, 0, 0), (1, 0, 0), (1, 0, 0)])

    def test_what_comes_is_ahead_of_what_is_sent(self):
        plan = (1, (("p", 9, 9, None, "line"), ("q", 1, 1, None, "line")),
                (("a", ("q",), 1, 1, 1, STILL), ("b", ("p", "q"), 1, 0, 1, STILL)))
        state, told = stepped(plan, begun(plan))
        self.assertEqual(told, events("sent b 0 p", "in b 0 p", "out b 0 p"))
        state, told = stepped(plan, state)
        self.assertEqual(told, events("sent a 0 q", "in b 0 q", "lost a 0 q", "taken b 0 q"))
        state, told = stepped(plan, state)
        self.assertEqual(told, events("sent a 0 q", "in a 0 q", "taken a 0 q"))

    def test_lost_on_a_later_way_begins_its_road_anew(self):
        plan = (1, (("p", 9, 9, 0, "line"), ("q", 1, 1, None, "line")), (("a", ("p", "q"), 3, 0, None, STILL),))
        state, told = stepped(plan, begun(plan))
        state, told = stepped(plan, state)
        self.assertEqual(told, events("in a 0 q", "lost a 1 q", "taken a 0 q"))
        self.assertEqual(state[1][0], ("a", 1, (2, 1), (0, 1), 2, None, (), (1,), 0, 1, 0))
        state, told = stepped(plan, state)
        self.assertEqual((told, state[1][0][1]), ([], 0))
        state, told = stepped(plan, state)
        self.assertEqual(told, events("sent a 1 p", "sent a 2 p", "in a 1 p", "in a 2 p", "out a 1 p", "out a 2 p"))
        self.assertEqual(state[0][1][0], (("a", 1, 1, 1, 1), ("a", 2, 1, 1, 1)))

    def test_again_is_sent_from_the_least_on_and_ahead_of_new_ones(self):
        plan = (1, (("w", 20, 60, None, "line"),), (("a", ("w",), 1, 0, None, ("still", (4, 1))),))
        state = ((EMPTY,), (("a", 0, (4, 1), (0, 1), 9, None, (3, 7), (2, 5), 0, 0, 0),))
        told = stepped(plan, state)
        self.assertEqual(told[1][:4], events("sent a 2 w", "sent a 3 w", "sent a 5 w", "sent a 7 w"))
        self.assertEqual(told[0][1][0][4:8], (9, None, (), ()))
        state = ((EMPTY,), (("a", 0, (4, 1), (0, 1), 9, 1, (3,), (2,), 0, 0, 0),))
        told = stepped(plan, state)
        self.assertEqual(told[1][:3], events("sent a 2 w", "sent a 3 w", "sent a 9 w"))
        self.assertEqual(len(told[1]), 9)
        self.assertEqual(told[0][1][0][4:8], (10, 0, (), ()))
        state = ((EMPTY,), (("a", 0, (4, 1), (0, 1), 9, None, (1, 3, 7), (2, 5), 0, 0, 0),))
        self.assertEqual(stepped(plan, state)[0][1][0][4:8], (9, None, (7,), ()))

    def test_letters_of_one_round_are_not_counted_against_the_other_ones(self):
        # Five stand, so with a window of 4 none is sent, and with one of 13/2 one is.
        letters = tuple([("a", number, 1, 0, 0) for number in range(5)])
        plan = (2, (("w", 1, 60, None, "line"),), (("a", ("w",), 1, 0, None, ("still", (13, 2))),))
        for window, sent in (((4, 1), 0), ((5, 1), 0), ((6, 1), 1), ((13, 2), 1), ((7, 1), 2)):
            state = ((((), letters, ""),), (("a", 0, window, (0, 1), 5, None, (), (), 0, 0, 0),))
            told = stepped(plan, state)[1]
            self.assertEqual(len([one for one in told if one[0] == "sent"]), sent)

    def test_wait_is_the_longest_since_the_last_beat(self):
        plan = (1, (("w", 1, 9, None, "line"),), (("a", ("w",), 4, 0, 3, ("calm", (3, 1), (1, 1), 1, 1, (9, 1))),))
        state = begun(plan)
        for good, wait in ((1, 0), (2, 1), (3, 2), (3, 2)):
            state = stepped(plan, state)[0]
            self.assertEqual(state[1][0][8:], (good, 0, wait))
        self.assertEqual(stepped(plan, state)[0][1][0][2:], ((2, 1), (0, 1), 3, 0, (), (), 0, 0, 0))

    def test_beats(self):
        for beat in (1, 2, 8):
            for begin in (0, 1, 5):
                plan = (1, (("w", 9, 9, None, "line"),), (("a", ("w",), beat, begin, None, ("still", (1, 1))),))
                state = begun(plan)
                for count in range(25):
                    state, told = stepped(plan, state)
                    beats = count >= begin and (count - begin) % beat == 0
                    self.assertEqual(len(told), 3 if beats else 0)

    def test_no_more_beats_where_due_is_none(self):
        state = ((((), (("a", 0, 1, 0, 0), ("a", 1, 1, 0, 1)), ""),),
                 (("a", None, (3, 1), (0, 1), 4, 1, (2,), (3,), 0, 0, 0),))
        state, told = stepped(NARROW, state)
        self.assertEqual(told, events("taken a 0 w"))
        state, told = stepped(NARROW, state)
        self.assertEqual(told, events("taken a 1 w"))
        state, told = stepped(NARROW, state)
        self.assertEqual(told, [])
        self.assertEqual(state, ((EMPTY,), (("a", None, (3, 1), (0, 1), 4, 1, (2,), (3,), 1, 1, 2),)))

    def test_no_senders(self):
        plan = (1, SHARED[1], ())
        self.assertEqual(stepped(plan, begun(plan)), (begun(plan), []))

    def test_nothing_to_send(self):
        plan = (1, (("w", 9, 9, None, "line"),), (("a", ("w",), 1, 0, 0, STILL),))
        self.assertEqual(stepped(plan, begun(plan)), (begun(plan), []))


class Drawn(unittest.TestCase):
    def plans(self, seed, many):
        source = random.Random(seed)
        return [drawn.plan(source) for turn in range(many)]

    def test_each_round_is_the_plain_rules(self):
        for plan in self.plans(14, 250):
            state, other = begun(plan), plain.PlainRun(plan)
            self.assertEqual(state, other.state())
            for count in range(40):
                state, told = stepped(plan, state)
                self.assertEqual(told, other.step(), (plan, count))
                self.assertEqual(state, other.state(), (plan, count))

    def test_each_letter_is_in_just_one_place(self):
        for plan in self.plans(15, 80):
            state, taken, sent, gone = begun(plan), {}, {}, {}
            for count in range(40):
                state, told = stepped(plan, state)
                for word, name, number, way in told:
                    if word == "sent":
                        sent[name] = sent.get(name, 0) + 1
                    if word in ("taken", "lost"):
                        gone[name] = gone.get(name, 0) + 1
                    if word == "taken":
                        taken.setdefault(name, []).append(number)
                for sender in state[1]:
                    name = sender[0]
                    under = [one[1] for way in state[0] for one in way[0] + way[1] if one[0] == name]
                    places = under + list(sender[6]) + list(sender[7]) + taken.get(name, [])
                    self.assertEqual(sorted(places), list(range(sender[4])))
                    self.assertEqual(sent.get(name, 0), gone.get(name, 0) + len(under))

    def test_order_and_bounds_of_a_state(self):
        for plan in self.plans(16, 60):
            state = begun(plan)
            for count in range(30):
                state = stepped(plan, state)[0]
                for way, kept in zip(plan[1], state[0]):
                    self.assertLessEqual(len(kept[1]), way[2])
                    if way[4] == "line":
                        self.assertEqual(kept[2], "")
                for sender in state[1]:
                    self.assertEqual(list(sender[6]), sorted(sender[6]))
                    self.assertEqual(list(sender[7]), sorted(sender[7]))
                    self.assertGreaterEqual(floor_of(sender[2]), 1)

    def test_moved_numbers_go_on_alike(self):
        source = random.Random(17)
        for plan in self.plans(17, 60):
            by = {sender[0]: source.choice([-7, 0, 3, -1000, 10 ** 6]) for sender in plan[2]}
            state = begun(plan)
            other = plain.moved(state, by)
            for count in range(30):
                state, told = stepped(plan, state)
                other, also = stepped(plan, other)
                self.assertEqual(other, plain.moved(state, by))
                self.assertEqual(also, [(word, name, number + by[name], way) for word, name, number, way in told])
                if source.random() < 0.2:
                    # As a like has it: each next is taken away.
                    by = {sender[0]: -sender[4] for sender in state[1]}
                    other = plain.moved(state, by)

    def test_nothing_is_changed_and_lists_are_new(self):
        for plan in self.plans(18, 20):
            state = begun(plan)
            for count in range(10):
                before = repr((plan, state))
                first, second = stepped(plan, state), stepped(plan, state)
                self.assertEqual(first, second)
                first[1].append("spoiled")
                self.assertNotIn("spoiled", second[1])
                self.assertNotIn("spoiled", stepped(plan, state)[1])
                self.assertEqual(repr((plan, state)), before)
                state = second[0]

    def test_all_in_a_state_are_tuples(self):
        def look(thing):
            self.assertIn(type(thing), (tuple, int, str, type(None)))
            if isinstance(thing, tuple):
                for part in thing:
                    look(part)

        for plan in self.plans(19, 20):
            state = begun(plan)
            for count in range(10):
                look(state)
                state, told = stepped(plan, state)
                look(tuple(told))


if __name__ == "__main__":
    unittest.main()
