"""Points 23, 3 (a), (b) and (e): plays, their deeds, and what they refuse."""

import random
import unittest

import drawn
import plain
from anything import Awkward, deep, spoiled, things
from swellways.again import again, told_at
from swellways.apart import apart, gentler
from swellways.errors import BadDeed, NoDeed, NoName, Taken
from swellways.fractions import less, minus, times
from swellways.letters import place_of
from swellways.plans import is_plan
from swellways.plays import Play
from swellways.rounds import begun, stepped
from swellways.runs import run, totals
from test_rounds import EMPTY, NARROW, SHARED, STILL, events

WIDE = ("w", 20, 60, None, "line")
STEP = ("step", (2, 1), (1, 2), (1, 2), (9, 1))


def sender(name, rule=STILL, road=("w",), beat=1, begin=0, many=None):
    return (name, road, beat, begin, many, rule)


def seen(play):
    """All that a play tells of itself."""
    return (play.now(), play.plan(), play.state(), play.totals())


def window_of(play, name):
    return [kept[2] for kept in play.state()[1] if kept[0] == name][0]


def with_rounds(first, rows):
    """Events of rounds from first on, each with its round ahead."""
    return [(first + turn,) + one for turn, row in enumerate(rows) for one in row]


class Told(unittest.TestCase):
    def test_at_first(self):
        for plan in (NARROW, SHARED, (1, NARROW[1], ())):
            play = Play(plan)
            self.assertEqual(seen(play), (0, plan, begun(plan), totals(plan, 0)))

    def test_go(self):
        play = Play(NARROW)
        self.assertEqual(play.go(2), with_rounds(0, [
            events("sent a 0 w", "sent a 1 w", "sent a 2 w", "in a 0 w", "in a 1 w", "lost a 2 w", "taken a 0 w"),
            events("taken a 1 w")]))
        self.assertEqual(seen(play), (2, NARROW, run(NARROW, 2)[0], (("a", 3, 2, 1, 1),)))
        self.assertEqual(play.go(0), [])
        self.assertEqual(play.now(), 2)
        self.assertEqual(play.go(1), with_rounds(2, [events("sent a 2 w", "in a 2 w", "taken a 2 w")]))
        self.assertEqual(seen(play), (3, NARROW, run(NARROW, 3)[0], totals(NARROW, 3)))

    def test_go_without_senders(self):
        play = Play((1, NARROW[1], ()))
        self.assertEqual(play.go(9), [])
        self.assertEqual(seen(play), (9, (1, NARROW[1], ()), ((EMPTY,), ()), ()))

    def test_pieces_are_the_whole(self):
        source = random.Random(90)
        for turn in range(60):
            plan = drawn.plan(source)
            play = Play(plan)
            told = []
            while play.now() < 40:
                told += play.go(source.choice([0, 1, 1, 2, 7]))
            state, rows = run(plan, play.now())
            self.assertEqual(told, with_rounds(0, rows))
            self.assertEqual(seen(play), (play.now(), plan, state, totals(plan, play.now())))

    def test_told_things(self):
        play = Play(SHARED)
        told = play.go(3)
        self.assertIs(type(told), list)
        self.assertEqual({type(one) for one in told}, {tuple})
        before = seen(play)
        told.append("spoiled")
        told[0] = None
        self.assertEqual(seen(play), before)
        self.assertEqual(play.go(0), [])
        play.back()
        play.back()
        self.assertEqual(play.go(3), with_rounds(0, run(SHARED, 3)[1]))
        self.assertIs(type(play.plan()), tuple)
        self.assertIs(type(play.state()), tuple)
        self.assertIs(type(play.totals()), tuple)

    def test_deeds_tell_nothing(self):
        play = Play(SHARED)
        self.assertIsNone(play.come(sender("d", road=("p",))))
        self.assertIsNone(play.leave("a"))
        self.assertIsNone(play.turn("b", STEP))
        self.assertIsNone(play.change(("p", 2, 2, 2, "line")))
        self.assertIsNone(play.back())

    def test_two_plays_of_one_plan(self):
        one, other = Play(NARROW), Play(NARROW)
        one.go(3)
        one.leave("a")
        self.assertEqual(seen(other), seen(Play(NARROW)))
        with self.assertRaises(NoDeed):
            other.back()

    def test_many_rounds(self):
        play = Play(SHARED)
        play.go(2000)
        self.assertEqual(play.totals(), totals(SHARED, 2000))
        play.go(2000)
        found = again(SHARED, 99)
        self.assertEqual([row[1:] for row in play.totals()], [row[2:] for row in told_at(SHARED, found, 4000)[0]])


class Come(unittest.TestCase):
    def test_in_the_order_of_names(self):
        for name, place in (("a", 0), ("bb", 1), ("c", 2), ("zz", 3)):
            plan = (1, (WIDE,), (sender("b"), sender("bz"), sender("x")))
            play = Play(plan)
            play.go(2)
            before = seen(play)
            one = sender(name, STEP, ("w",), 3, 7, 5)
            play.come(one)
            self.assertEqual(play.now(), 2)
            self.assertEqual(play.plan(), plan[:2] + (tuple(sorted(plan[2] + (one,))),))
            self.assertIs(is_plan(play.plan()), True)
            kept = (name, 7, (2, 1), (0, 1), 0, 5, (), (), 0, 0, 0)
            self.assertEqual(play.state(), (before[2][0], tuple(sorted(before[2][1] + (kept,)))))
            self.assertEqual(play.totals(), tuple(sorted(before[3] + ((name, 0, 0, 0, 0),))))

    def test_its_due_is_its_begin_from_now_on(self):
        play = Play((1, (WIDE,), ()))
        play.go(10)
        play.come(sender("a", begin=3, beat=4))
        sent = [one[0] for one in play.go(12) if one[1] == "sent"]
        self.assertEqual(sent, [13, 13, 17, 17, 21, 21])
        self.assertEqual(play.plan()[2][0][3:5], (3, None))

    def test_its_window_is_cut(self):
        play = Play((2, (WIDE,), ()))
        play.come(sender("a", ("step", (7, 3), (1, 1), (1, 2), (9, 1))))
        self.assertEqual(window_of(play, "a"), (2, 1))

    def test_it_sends_in_the_order_of_names(self):
        play = Play((1, (WIDE,), (sender("b", many=1), sender("d", many=1))))
        play.come(sender("c", many=1))
        play.come(sender("a", many=1))
        self.assertEqual([one[2] for one in play.go(1) if one[1] == "sent"], ["a", "b", "c", "d"])

    def test_turns_go_on_with_it(self):
        play = Play((1, (("w", 1, 60, None, "turns"),), (sender("a"), sender("c"))))
        play.go(1)
        play.come(sender("b"))
        self.assertEqual([one[2] for one in play.go(4) if one[1] == "taken"], ["b", "c", "a", "b"])

    def test_a_way_that_was_changed(self):
        play = Play((1, (WIDE,), ()))
        play.change(("w", 1, 1, 0, "turns"))
        play.come(sender("a", many=2))
        self.assertEqual([one[1] for one in play.go(1)], ["sent", "sent", "in", "lost", "taken"])
        self.assertEqual(play.totals(), (("a", 2, 1, 1, 1),))


class Leave(unittest.TestCase):
    def test_no_more_beats(self):
        play = Play(SHARED)
        play.go(1)
        before = seen(play)
        play.leave("b")
        rows = tuple([kept[:1] + (None,) + kept[2:] if kept[0] == "b" else kept for kept in before[2][1]])
        self.assertEqual(seen(play), (1, SHARED, (before[2][0], rows), before[3]))
        told = play.go(20)
        self.assertNotIn("b", [one[2] for one in told if one[1] == "sent"])
        self.assertIn((1, "taken", "b", 0, "p"), told)
        # What is lost stays so, and what it hears is kept.
        self.assertEqual(play.state()[1][1], ("b", None, (2, 1), (0, 1), 2, None, (), (1,), 1, 0, 1))
        self.assertEqual(play.totals()[1], ("b", 2, 1, 1, 0))
        self.assertEqual(play.plan(), SHARED)
        self.assertEqual(place_of(play.plan(), play.state(), "b", 0), ("taken",))
        self.assertEqual(place_of(play.plan(), play.state(), "b", 1), ("lost",))

    def test_lost_behind_the_leave(self):
        plan = (1, (("p", 9, 9, None, "line"), ("q", 1, 1, None, "line")), (sender("a", road=("p", "q")),))
        play = Play(plan)
        play.go(1)
        play.leave("a")
        self.assertEqual(play.go(1), with_rounds(1, [events("in a 0 q", "lost a 1 q", "taken a 0 q")]))
        play.go(5)
        self.assertEqual(play.state()[1][0][7:], ((1,), 1, 0, 0))
        self.assertEqual(play.totals(), (("a", 2, 1, 1, 0),))

    def test_ahead_of_its_begin(self):
        play = Play((1, (WIDE,), (sender("a", begin=5),)))
        play.leave("a")
        self.assertEqual(play.go(9), [])

    def test_it_still_has_its_turns(self):
        rule = ("still", (3, 1))
        play = Play((1, (("w", 1, 60, None, "turns"),), (sender("a", rule), sender("b", rule))))
        play.go(1)
        play.leave("b")
        self.assertEqual([one[2] for one in play.go(5) if one[1] == "taken"], ["b", "a", "b", "a", "b"])


class Turn(unittest.TestCase):
    def turned(self, grid, first, rule, window):
        """The window behind a turn, and that all else is as it was."""
        play = Play((grid, (WIDE,), (sender("a", first), sender("b", first))))
        play.go(3)
        before = seen(play)
        old = before[2][1][0]
        play.turn("a", rule)
        plan = before[1][:2] + ((before[1][2][0][:5] + (rule,), before[1][2][1]),)
        state = (before[2][0], (old[:2] + (window,) + old[3:], before[2][1][1]))
        self.assertEqual(seen(play), (3, plan, state, before[3]))

    def test_a_top_above_at_and_below_the_window(self):
        first = ("step", (5, 1), (1, 1), (1, 2), (5, 1))
        for top, window in (((9, 1), (5, 1)), ((5, 1), (5, 1)), ((4, 1), (4, 1)), ((19, 4), (14, 3)), ((1, 1), (1, 1)),
                            ((16, 3), (5, 1))):
            for word in ("step", "swell", "heed"):
                self.turned(3, first, (word, (1, 1), (2, 1), (1, 2), top), window)
            self.turned(3, first, ("calm", (1, 1), (2, 1), 1, 2, top), window)

    def test_a_top_that_is_cut(self):
        first = ("step", (5, 1), (1, 1), (1, 2), (5, 1))
        self.turned(1, first, ("step", (1, 1), (1, 1), (1, 2), (9, 2)), (4, 1))
        self.turned(2, first, ("step", (1, 1), (1, 1), (1, 2), (9, 2)), (9, 2))

    def test_still(self):
        # Of still it is w, above and below the window.
        first = ("step", (5, 1), (1, 1), (1, 2), (5, 1))
        for own, window in (((9, 1), (9, 1)), ((5, 1), (5, 1)), ((1, 1), (1, 1)), ((7, 4), (5, 3)), ((60, 1), (60, 1))):
            self.turned(3, first, ("still", own), window)

    def test_from_still(self):
        self.turned(2, ("still", (5, 1)), ("step", (1, 1), (1, 1), (1, 2), (9, 1)), (5, 1))
        self.turned(2, ("still", (5, 1)), ("step", (1, 1), (1, 1), (1, 2), (3, 1)), (3, 1))

    def test_the_share_stays(self):
        ways = (("w", 20, 60, 1, "line"),)
        play = Play((4, ways, (sender("a", ("heed", (3, 1), (1, 1), (1, 2), (9, 1))),)))
        play.go(3)
        share = play.state()[1][0][3]
        self.assertNotEqual(share, (0, 1))
        play.turn("a", ("step", (1, 1), (1, 1), (1, 2), (9, 1)))
        self.assertEqual(play.state()[1][0][3], share)
        play.go(5)
        self.assertEqual(play.state()[1][0][3], share)
        play.turn("a", ("heed", (1, 1), (1, 1), (1, 1), (9, 1)))
        self.assertEqual(play.state()[1][0][3], share)

    def test_the_rule_goes_from_now_on(self):
        play = Play((2, (WIDE,), (sender("a", STEP),)))
        play.go(1)
        play.turn("a", ("step", (1, 1), (3, 1), (1, 2), (9, 1)))
        play.go(1)
        self.assertEqual(window_of(play, "a"), (5, 1))
        play.turn("a", ("still", (1, 1)))
        self.assertEqual(len([one for one in play.go(1) if one[1] == "sent"]), 1)
        self.assertEqual(window_of(play, "a"), (1, 1))


class Change(unittest.TestCase):
    def test_less_room_than_stands(self):
        play = Play((1, (("w", 1, 9, None, "line"),), (sender("a", ("still", (6, 1)), many=8),)))
        play.go(1)
        play.change(("w", 1, 2, 0, "line"))
        self.assertEqual(len(play.state()[0][0][1]), 5)
        told = play.go(1)
        # All that stood stand, unmarked; what comes is lost.
        self.assertEqual(told, with_rounds(1, [events("sent a 6 w", "lost a 6 w", "taken a 1 w")]))
        self.assertEqual([one[1] for one in play.state()[0][0][1]], [2, 3, 4, 5])
        self.assertEqual([one[4] for one in play.state()[0][0][1]], [0, 0, 0, 0])

    def test_from_turns_to_a_line_and_back(self):
        ways = (("w", 1, 60, None, "turns"), ("x", 1, 60, None, "turns"))
        senders = (sender("a"), sender("b"), sender("c", road=("x",)))
        play = Play((1, ways, senders))
        play.go(1)
        self.assertEqual([kept[2] for kept in play.state()[0]], ["a", "c"])
        # By turns it stays, whatever else is changed.
        play.change(("w", 2, 50, 3, "turns"))
        self.assertEqual([kept[2] for kept in play.state()[0]], ["a", "c"])
        before = play.state()
        play.change(("w", 1, 60, None, "line"))
        self.assertEqual([kept[2] for kept in play.state()[0]], ["", "c"])
        self.assertEqual([kept[:2] for kept in play.state()[0]], [kept[:2] for kept in before[0]])
        self.assertEqual(play.state()[1], before[1])
        play.change(("w", 1, 60, None, "turns"))
        self.assertEqual([kept[2] for kept in play.state()[0]], ["", "c"])
        self.assertEqual([one[2] for one in play.go(1) if one[1] == "taken"], ["a", "c"])

    def test_the_plan_is_told_with_it(self):
        play = Play(SHARED)
        play.go(4)
        before = seen(play)
        play.change(("q", 3, 7, 9, "line"))
        plan = (1, (SHARED[1][0], ("q", 3, 7, 9, "line")), SHARED[2])
        self.assertEqual(seen(play), (4, plan, before[2], before[3]))
        play.change(("q", 3, 7, 9, "line"))
        self.assertEqual(seen(play), (4, plan, before[2], before[3]))

    def test_pace_and_mark_from_now_on(self):
        play = Play((1, (("w", 1, 9, None, "line"),), (sender("a", ("still", (4, 1))),)))
        play.go(1)
        play.change(("w", 3, 9, 2, "line"))
        play.go(1)
        self.assertEqual(play.totals(), (("a", 5, 4, 0, 0),))
        self.assertEqual(play.state()[0][0][1], (("a", 4, 1, 0, 1),))


class Back(unittest.TestCase):
    def test_each_deed(self):
        play = Play(SHARED)
        kept = []
        way = ("q", 1, 1, None, "turns")
        deeds = (("go", 2), ("come", sender("d", road=("p",))), ("go", 0), ("leave", "a"), ("go", 5),
                 ("turn", "b", STEP), ("change", way), ("change", way), ("go", 3), ("leave", "d"))
        for deed in deeds:
            kept.append(seen(play))
            getattr(play, deed[0])(*deed[1:])
        while kept:
            self.assertIsNone(play.back())
            self.assertEqual(seen(play), kept.pop())
        for turn in range(3):
            with self.assertRaises(NoDeed):
                play.back()
            self.assertEqual(seen(play), seen(Play(SHARED)))

    def test_go_of_no_rounds(self):
        play = Play(NARROW)
        play.go(3)
        play.go(0)
        before = seen(play)
        play.back()
        self.assertEqual(seen(play), before)
        play.back()
        self.assertEqual(seen(play), seen(Play(NARROW)))
        play.go(0)
        play.back()
        with self.assertRaises(NoDeed):
            play.back()

    def test_at_first(self):
        play = Play(NARROW)
        with self.assertRaises(NoDeed):
            play.back()

    def test_what_was_refused_is_not_undone(self):
        play = Play(NARROW)
        play.go(2)
        for deed in (("leave", "b"), ("come", None), ("turn", "a", None), ("change", None)):
            with self.assertRaises((BadDeed, NoName)):
                getattr(play, deed[0])(*deed[1:])
        play.back()
        self.assertEqual(seen(play), seen(Play(NARROW)))

    def test_a_name_is_free_again(self):
        play = Play(NARROW)
        play.come(sender("b"))
        play.back()
        play.come(sender("b", STEP))
        self.assertEqual(len(play.plan()[2]), 2)
        play.leave("b")
        play.back()
        play.leave("b")

    def test_back_itself_is_no_deed(self):
        play = Play(NARROW)
        play.go(1)
        play.go(1)
        play.back()
        play.back()
        self.assertEqual(play.now(), 0)


class Refused(unittest.TestCase):
    def play(self):
        """A play in which some time has gone by, and one has left."""
        play = Play(SHARED)
        play.go(3)
        play.leave("a")
        return play

    def refuse(self, play, error, word, *handed):
        before, given = seen(play), repr(handed)
        with self.assertRaises(error) as told:
            getattr(play, word)(*handed)
        self.assertIs(type(told.exception), error, (word, handed))
        self.assertEqual(seen(play), before)
        self.assertEqual(repr(handed), given)
        return told.exception

    def test_come_of_no_sender(self):
        play = self.play()
        right = sender("d", STEP, ("p", "q"))
        for wrong in (right[:5], right + (None,), list(right), None, (), "d", SHARED, SHARED[2],
                      sender("d", road=("q", "p")), sender("d", road=("x",)), sender("d", road=()),
                      sender("d", road=["p"]), sender("d", road=("p",), beat=0), sender("d", road=("p",), beat=9),
                      sender("d", road=("p",), begin=-1), sender("d", road=("p",), begin=10 ** 6 + 1),
                      sender("d", road=("p",), many=-1),
                      sender("d", road=("p",), many=10 ** 6 + 1), sender("d", ("still", (1, 2)), ("p",)),
                      sender("d", None, ("p",)), sender("D", road=("p",)), sender("", road=("p",)),
                      sender("ninechars", road=("p",)), sender(None, road=("p",)), sender(1, road=("p",))):
            self.refuse(play, BadDeed, "come", wrong)
        for path, thing in spoiled(right):
            # A road of one of its two ways is one, too.
            if path != (1,) or repr(thing[1]) not in ("('p',)", "('q',)"):
                self.refuse(play, BadDeed, "come", thing)
        for thing in things() + [deep(tuple), deep(list), Awkward()]:
            self.refuse(play, BadDeed, "come", thing)
            self.refuse(play, BadDeed, "come", (thing,) * 6)
        play.come(right)

    def test_come_of_a_name_that_is_or_was_there(self):
        play = self.play()
        for name in ("a", "b", "c"):
            self.refuse(play, Taken, "come", sender(name, road=("p",)))
            # What could not stand in the plan, whatever its name, is no sender at all.
            self.refuse(play, BadDeed, "come", sender(name, road=("x",)))
            self.refuse(play, BadDeed, "come", sender(name, ("still", (61, 1)), ("p",)))
        # A way may be called so.
        play.come(sender("p", road=("p",)))
        self.refuse(play, Taken, "come", sender("p", road=("p",)))

    def test_the_ninth(self):
        play = self.play()
        for name in "defgh":
            play.come(sender(name, road=("p",)))
        self.assertEqual(len(play.plan()[2]), 8)
        self.refuse(play, BadDeed, "come", sender("i", road=("p",)))
        # One that leaves makes no place.
        play.leave("d")
        self.refuse(play, BadDeed, "come", sender("i", road=("p",)))
        self.refuse(play, Taken, "come", sender("h", road=("p",)))
        self.refuse(play, Taken, "come", sender("d", road=("p",)))
        self.refuse(play, BadDeed, "come", sender("h", road=("x",)))
        play.back()
        play.back()
        play.come(sender("i", road=("p",)))

    def test_leave(self):
        play = self.play()
        self.refuse(play, NoName, "leave", "a")
        play.leave("b")
        self.refuse(play, NoName, "leave", "b")
        for name in ("x", "p", "q", "", "C", "cc", "c ", None, 0, True, ("c",), ["c"], b"c", {"c": 1}):
            self.refuse(play, NoName, "leave", name)
        for thing in things() + [deep(tuple), deep(list), Awkward()]:
            self.refuse(play, NoName, "leave", thing)
        play.leave("c")

    def test_turn(self):
        play = self.play()
        for wrong in (("still", (1, 2)), ("still", (61, 1)), ("still",), "still", None, (), STEP[:4], STEP + (1,),
                      list(STEP), ("step", (2, 1), (1, 2), (1, 1), (9, 1)), ("stop",) + STEP[1:]):
            for name in ("b", "a", "x", None, Awkward()):
                self.refuse(play, BadDeed, "turn", name, wrong)
        for thing in things() + [deep(tuple), deep(list), Awkward()]:
            self.refuse(play, BadDeed, "turn", "b", thing)
            self.refuse(play, BadDeed, "turn", thing, thing)
            self.refuse(play, NoName, "turn", thing, STEP)
        for path, thing in spoiled(STEP):
            self.refuse(play, BadDeed, "turn", "b", thing)
        for name in ("a", "x", "p", "", "B", None, 1, ["b"], ("b",)):
            self.refuse(play, NoName, "turn", name, STEP)
        play.turn("b", STEP)

    def test_change(self):
        play = self.play()
        for wrong in (("p", 0, 1, None, "line"), ("p", 21, 1, None, "line"), ("p", 1, 0, None, "line"),
                      ("p", 1, 61, None, "line"), ("p", 1, 1, -1, "line"), ("p", 1, 1, 61, "line"),
                      ("p", 1, 1, None, "ring"), ("P", 1, 1, None, "line"), ("p", 1, 1, None),
                      ["p", 1, 1, None, "line"], "p", None, (),
                      ("x", 0, 1, None, "line")):
            self.refuse(play, BadDeed, "change", wrong)
        for thing in things() + [deep(tuple), deep(list), Awkward()]:
            self.refuse(play, BadDeed, "change", thing)
            self.refuse(play, BadDeed, "change", (thing,) * 5)
        for path, thing in spoiled(("p", 1, 1, 1, "line")):
            if path != (3,) or thing[3] is not None:
                self.refuse(play, BadDeed, "change", thing)
        for name in ("x", "a", "b", "c", "pp"):
            self.refuse(play, NoName, "change", (name, 1, 1, None, "line"))
        play.change(("p", 1, 1, None, "line"))


class Drawn(unittest.TestCase):
    def test_deeds_between_rounds(self):
        """A play against the plain rule, and against the rounds one by one with the plan as it is then."""
        source = random.Random(91)
        done = {}
        for turn in range(150):
            plan = drawn.plan(source)
            play, other, left = Play(plan), plain.PlainRun(plan), []
            kept = [seen(play)]
            for count in range(source.randint(1, 14)):
                deed = drawn.deed(source, plan, left)
                done[deed[0]] = done.get(deed[0], 0) + 1
                getattr(play, deed[0])(*deed[1:])
                getattr(other, deed[0])(*deed[1:])
                plan = drawn.plan_of_deed(plan, deed)
                left += deed[1:] if deed[0] == "leave" else ()
                self.assertEqual((play.plan(), play.state(), play.totals()), (plan, other.state(), other.counted()))
                kept.append(seen(play))
                many = source.choice([0, 1, 2, 6])
                state, rows = play.state(), []
                for one in range(many):
                    state, told = stepped(plan, state)
                    rows.append(told)
                    self.assertEqual(told, other.step())
                first = play.now()
                self.assertEqual(play.go(many), with_rounds(first, rows))
                self.assertEqual(seen(play), (first + many, plan, state, other.counted()))
                self.assertEqual(state, other.state())
                kept.append(seen(play))
            while len(kept) > 1:
                self.assertEqual(seen(play), kept.pop())
                play.back()
            self.assertEqual(seen(play), kept[0])
        self.assertGreater(min(done.values()), 50, done)
        self.assertEqual(len(done), 4)

    def test_back_and_on_again(self):
        source = random.Random(92)
        for turn in range(60):
            plan = drawn.plan(source)
            play, left = Play(plan), []
            for count in range(10):
                deed = drawn.deed(source, play.plan(), [one[0] for one in play.state()[1] if one[1] is None])
                before = seen(play)
                getattr(play, deed[0])(*deed[1:])
                told = play.go(3)
                behind = seen(play)
                play.back()
                play.back()
                self.assertEqual(seen(play), before)
                getattr(play, deed[0])(*deed[1:])
                self.assertEqual(play.go(3), told)
                self.assertEqual(seen(play), behind)

    def test_each_letter_is_in_just_one_place(self):
        source = random.Random(93)
        for turn in range(60):
            play = Play(drawn.plan(source))
            taken = {}
            for count in range(12):
                deed = drawn.deed(source, play.plan(), [one[0] for one in play.state()[1] if one[1] is None])
                getattr(play, deed[0])(*deed[1:])
                for when, word, name, number, way in play.go(source.randint(0, 3)):
                    if word == "taken":
                        taken.setdefault(name, []).append(number)
                for kept, counted in zip(play.state()[1], play.totals()):
                    name = kept[0]
                    under = [one[1] for way in play.state()[0] for one in way[0] + way[1] if one[0] == name]
                    places = under + list(kept[6]) + list(kept[7]) + taken.get(name, [])
                    self.assertEqual(sorted(places), list(range(kept[4])))
                    self.assertEqual(counted[1], counted[2] + counted[3] + len(under))


class EvenTurns(unittest.TestCase):
    def test_neither_more_than_one_more(self):
        """A way by turns, with senders that come, leave and turn, and a way that changes its pace and room."""
        source = random.Random(96)
        for turn in range(60):
            play = Play((1, (("w", 1, 60, None, "turns"),), (sender("b", ("still", (9, 1))),
                                                             sender("d", ("still", (4, 1))))))
            counts = {}
            for count in range(12):
                deed = drawn.deed(source, play.plan(), [one[0] for one in play.state()[1] if one[1] is None])
                if deed[0] == "change":
                    deed = ("change", deed[1][:4] + ("turns",))
                getattr(play, deed[0])(*deed[1:])
                for step in range(source.randint(1, 4)):
                    stand = [one[0] for one in play.state()[0][0][1]]
                    for when, word, name, number, way in play.go(1):
                        if word == "in":
                            stand.append(name)
                        if word == "taken":
                            self.count(counts, stand, name)
                            stand.remove(name)

    def count(self, counts, stand, gone):
        """Counts one letter let out for each two senders; where not both stand the count begins anew."""
        for one in drawn.NAMES + ("d", "m", "q", "x"):
            for other in drawn.NAMES + ("d", "m", "q", "x"):
                if one < other and one in stand and other in stand:
                    more = counts.get((one, other), 0) + (gone == one) - (gone == other)
                    low, high = counts.get((one, other, "span"), (0, 0))
                    counts[(one, other)] = more
                    counts[(one, other, "span")] = (min(low, more), max(high, more))
                    self.assertLessEqual(max(high, more) - min(low, more), 1)
                else:
                    counts.pop((one, other), None)
                    counts.pop((one, other, "span"), None)


class HearAlike(unittest.TestCase):
    """Two plays of one plan but for a window, so large in both that what is sent, and so heard, is the same."""

    def far(self, grid, one, other):
        between = times(minus(one, other), (grid, 1))
        self.assertEqual(between[1], 1)
        return abs(between[0])

    def pair(self, source, mild):
        """Two plays in which a's few letters go alike, and the rules of a in each."""
        grid = drawn.grid(source)
        rule = drawn.rule(source, source.choice(["step", "swell", "heed", "calm"]))
        other = rule[:1] + (drawn.at_least_one(source, rule[-1]),) + rule[2:]
        if mild:
            other = drawn.gentler_rule(source, rule)
        ways = (drawn.way(source, "p"), drawn.way(source, "q"))
        beat, many = source.randint(1, 3), source.randint(1, 30)
        plays = [Play((grid, ways, (sender("a", own, ("p", "q"), beat, 0, many), sender("b", STILL, ("p",)))))
                 for own in (rule, other)]
        return grid, plays, [rule, other]

    def heard(self, play):
        """What a hears in the next round, or None where it has no beat then."""
        kept = play.state()[1][0]
        return (kept[8], kept[9], len(kept[7]), kept[10]) if kept[1] == 0 else None

    def test_windows_come_no_farther_apart_than_told(self):
        source = random.Random(94)
        looked = {True: 0, False: 0}
        for turn in range(300):
            grid, plays, rules = self.pair(source, False)
            rule = rules[0]
            far = self.far(grid, window_of(plays[0], "a"), window_of(plays[1], "a"))
            for count in range(25):
                heard = [self.heard(play) for play in plays]
                if heard[0] != heard[1] or plays[0].state()[1][0][3] != plays[1].state()[1][0][3]:
                    break
                if heard[0] is not None:
                    far = apart(rule, grid, plays[0].state()[1][0][3], far, heard[:1])
                for play in plays:
                    play.go(1)
                windows = [window_of(play, "a") for play in plays]
                looked[windows[0] == windows[1]] += 1
                self.assertLessEqual(self.far(grid, *windows), far)
                if source.random() < 0.1:
                    rule = drawn.rule(source)
                    for play in plays:
                        play.turn("a", rule)
                    windows = [window_of(play, "a") for play in plays]
                    self.assertLessEqual(self.far(grid, *windows), far)
        self.assertGreater(min(looked.values()), 200, looked)

    def test_a_gentler_rule_never_has_the_greater_window(self):
        source = random.Random(95)
        looked = 0
        for turn in range(300):
            grid, plays, rules = self.pair(source, True)
            self.assertIs(gentler(rules[1], rules[0]), True)
            for count in range(25):
                heard = [self.heard(play) for play in plays]
                if heard[0] != heard[1]:
                    break
                for play in plays:
                    play.go(1)
                looked += 1
                self.assertIs(less(window_of(plays[0], "a"), window_of(plays[1], "a")), False)
                if source.random() < 0.1:
                    rule = drawn.rule(source)
                    if rule[0] != "heed" or plays[0].state()[1][0][3] == plays[1].state()[1][0][3]:
                        plays[0].turn("a", rule)
                        plays[1].turn("a", drawn.gentler_rule(source, rule))
                        self.assertIs(less(window_of(plays[0], "a"), window_of(plays[1], "a")), False)
        self.assertGreater(looked, 800)


if __name__ == "__main__":
    unittest.main()
