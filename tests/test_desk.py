"""Points 25 and 3 (h), (c): the desk, each line and its answer, and what it refuses."""

import random
import unittest

import drawn
import written
from anything import deep, things
from swellways.again import again, told_at
from swellways.ahead import ahead
from swellways.bounds import bounds
from swellways.desk import Desk
from swellways.errors import BadDeed, NoDeed, NoLine, NoName, NoText, Taken, WayError
from swellways.letters import place_of
from swellways.plays import Play
from swellways.rests import rest
from swellways.shares import even
from test_again import FOURS
from test_letters import HALVED
from test_rounds import NARROW, SHARED

ALONE = (1, NARROW[1], ())
ASKED = ("now", "totals", "again 200", "far 200 7", "rest 200", "bounds", "even")


def desk(plan):
    return Desk(written.show(plan))


def asked(one):
    """All that a desk tells of itself without being asked for a sender."""
    return [one.say(line) for line in ASKED]


def joined(rows):
    """Rows of texts, whole numbers and fractions as the desk tells them."""
    told = [" ".join([written.show_fraction(part) if isinstance(part, tuple) else str(part) for part in row])
            for row in rows]
    return "; ".join(told) or "-"


class Made(unittest.TestCase):
    def refuse(self, text, row):
        with self.assertRaises(NoText) as told:
            Desk(text)
        self.assertEqual(told.exception.row, row)

    def test_refused_as_the_text_is_read(self):
        self.refuse("", 0)
        self.refuse("grid 1", 1)
        self.refuse("grid 1\nway w 1 1 - line\n", 2)
        self.refuse("grid 1\nway w 1 1 - lane", 1)
        self.refuse("grid 0\nway w 1 1 - line", 2)
        for thing in things() + [deep(tuple), deep(list), NARROW, Play(NARROW)]:
            if not isinstance(thing, str):
                self.refuse(thing, 0)

    def test_two_desks(self):
        text = written.show(NARROW)
        one, other = Desk(text), Desk(text)
        one.say("go 3")
        self.assertEqual(other.say("now"), "0")


class Deeds(unittest.TestCase):
    def say(self, one, *pairs):
        for line, answer in pairs:
            told = one.say(line)
            self.assertEqual(told, answer, line)
            self.assertIs(type(told), str)

    def test_go(self):
        self.say(desk(NARROW), ("now", "0"), ("go 0", "0"), ("now", "0"), ("go 1", "7"), ("go 2", "4"), ("now", "3"),
                 ("totals", "a 4 3 1 1"), ("go 2000", "3"), ("now", "2003"), ("totals", "a 5 4 1 1"))
        self.say(desk(ALONE), ("go 2000", "0"), ("now", "2000"), ("totals", "-"))

    def test_totals(self):
        self.say(desk(SHARED), ("totals", "a 0 0 0 0; b 0 0 0 0; c 0 0 0 0"), ("go 4", "40"),
                 ("totals", "a 3 2 0 2; b 5 2 2 0; c 6 4 2 4"))

    def test_come_and_leave(self):
        one = desk(NARROW)
        self.say(one, ("go 2", "8"), ("come b w 2 1 - calm 3/2 1/2 0 1 5/2", "ok"), ("totals", "a 3 2 1 1; b 0 0 0 0"),
                 ("come aa w 1 0 0 still 1", "ok"), ("totals", "a 3 2 1 1; aa 0 0 0 0; b 0 0 0 0"), ("leave a", "ok"),
                 ("go 1", "0"), ("go 1", "3"), ("totals", "a 3 2 1 1; aa 0 0 0 0; b 1 1 0 0"), ("at b 0", "taken"),
                 ("at a 2", "lost"), ("leave aa", "ok"), ("leave b", "ok"), ("even", "-"), ("rest 9", "-"),
                 ("bounds", "w 0 0 none"))

    def test_turn(self):
        one = desk(NARROW)
        self.say(one, ("even", "a 1 w"), ("turn a still 1", "ok"), ("even", "a 1/2 -"), ("go 1", "3"),
                 ("turn a step 1 1 1/2 9", "ok"), ("back", "ok"), ("back", "ok"), ("go 0", "0"),
                 ("turn a heed 5 1 1 9", "ok"), ("go 1", "3"), ("turn a still 5/2", "ok"),
                 ("far 9 0", "a 5/2 0 0 0 0; w 0"))

    def test_way(self):
        one = desk(NARROW)
        self.say(one, ("way w 20 60 - turns", "ok"), ("go 1", "9"), ("bounds", "w 10 0 none"),
                 ("way w 1 1 0 line", "ok"),
                 ("bounds", "w 1 0 some"))

    def test_back(self):
        one = desk(SHARED)
        first = asked(one)
        kept = []
        for line in ("go 3", "leave a", "go 0", "way p 2 2 - line", "come d p 1 0 - still 2", "turn d still 1", "go 2"):
            kept.append(asked(one))
            one.say(line)
        while kept:
            self.assertEqual(one.say("back"), "ok")
            self.assertEqual(asked(one), kept.pop())
        self.assertEqual(asked(one), first)
        with self.assertRaises(NoDeed):
            one.say("back")


class Told(unittest.TestCase):
    def say(self, plan, *pairs):
        one = desk(plan)
        for line, answer in pairs:
            self.assertEqual(one.say(line), answer, line)
        return one

    def test_places(self):
        self.say(NARROW, ("at a 0", "new"), ("at a 999999999", "new"), ("go 1", "7"), ("at a 0", "taken"),
                 ("at a 1", "stands w 0"), ("at a 2", "lost"), ("at a 3", "new"))
        self.say(SHARED, ("go 1", "9"), ("at a 0", "comes q 0"), ("at a 1", "stands p 1"), ("at b 0", "stands p 0"),
                 ("at c 0", "new"), ("leave b", "ok"), ("at b 1", "lost"), ("at b 2", "new"))
        self.say(HALVED, ("go 2", "14"), ("at a 3", "again"), ("at a 2", "lost"))

    def test_again(self):
        self.say(NARROW, ("again 0", "-"), ("again 8", "-"), ("again 9", "7 9"), ("again 2000", "7 9"))
        self.say(ALONE, ("again 0", "-"), ("again 1", "0 1"))
        self.say(FOURS, ("again 3", "-"), ("again 4", "1 4"))

    def test_far(self):
        self.say(NARROW, ("far 8 0", "-"), ("far 9 0", "a 3 0 0 0 0; w 0"), ("far 9 1", "a 3 3 1 1 0; w 1"),
                 ("far 2000 5", "a 5/2 5 4 1 1; w 0"), ("far 9 999999999", "a 7/2 5 4 1 1; w 0"))
        self.say(ALONE, ("far 0 5", "-"), ("far 1 999999999", "w 0"))
        self.say(FOURS, ("far 4 999999999", "a 4 1333333332 1333333332 0 1333333332; w 0"),
                 ("far 4 999999997", "a 4 1333333332 1333333330 0 1333333330; w 2"))

    def test_rest(self):
        self.say(FOURS, ("rest 3", "-"), ("rest 4", "a 4/3"), ("rest 2000", "a 4/3"))
        self.say(NARROW, ("rest 9", "a 0"), ("rest 8", "-"))
        self.say(SHARED, ("rest 99", "a 1/2; b 1/2; c 3/2"))
        self.say(ALONE, ("rest 5", "-"))

    def test_bounds(self):
        self.say(NARROW, ("bounds", "w 2 1 some"))
        self.say(FOURS, ("bounds", "w 4 1 none"))
        self.say(SHARED, ("bounds", "p 3 5 some; q 2 0 some"))
        self.say(ALONE, ("bounds", "w 0 0 none"))

    def test_even(self):
        self.say(NARROW, ("even", "a 1 w"))
        self.say(FOURS, ("even", "a 4/3 -"))
        self.say(SHARED, ("even", "a 1/2 p; b 1/2 p; c 3/2 q"))
        self.say(ALONE, ("even", "-"))

    def test_ahead(self):
        self.say(FOURS, ("ahead 50 a sent still 4", "holds"), ("ahead 50 a sent still 3", "holds"),
                 ("ahead 50 a sent still 5", "fails 1"), ("ahead 50 a taken still 5", "fails 3"),
                 ("ahead 50 a lost still 5", "holds"), ("ahead 3 a sent still 3", "-"),
                 ("ahead 3 a sent still 5", "fails 1"),
                 ("ahead 0 a sent still 5", "-"), ("ahead 2000 a taken still 60", "fails 3"))

    def test_of_the_plan_from_its_own_begin(self):
        # What has gone on in the play does not count, what was changed does.
        one = self.say(NARROW, ("go 100", "14"), ("far 9 0", "a 3 0 0 0 0; w 0"), ("again 9", "7 9"),
                       ("come b w 3 0 - still 4", "ok"), ("leave a", "ok"), ("way w 2 9 0 line", "ok"))
        self.assertEqual([one.say(line) for line in ("again 4", "far 4 4", "rest 4", "bounds", "even")],
                         ["1 4", "b 4 8 6 0 6; w 2", "b 4/3", "w 4 1 none", "b 4/3 -"])
        self.assertEqual(one.say("totals"), "a 5 4 1 1; b 0 0 0 0")
        self.assertEqual(one.say("ahead 9 b sent still 4"), "holds")
        with self.assertRaises(NoLine):
            one.say("ahead 9 a sent still 4")
        self.assertEqual(one.say("at a 0"), "taken")


class Refused(unittest.TestCase):
    def setUp(self):
        self.desk = desk(SHARED)
        self.desk.say("go 3")
        self.desk.say("leave a")

    def refuse(self, error, *lines):
        for line in lines:
            before = asked(self.desk)
            with self.assertRaises(WayError) as told:
                self.desk.say(line)
            self.assertIs(type(told.exception), error, line)
            self.assertEqual(asked(self.desk), before)

    def test_of_anything(self):
        for thing in things() + [deep(tuple), deep(list), b"now", ["now"], ("now",), ["go", "1"]]:
            with self.assertRaises(NoLine):
                self.desk.say(thing)
        self.assertEqual(self.desk.say("now"), "3")

    def test_lines_of_no_form(self):
        self.refuse(NoLine, "", " ", "nothing", "Now", "NOW", "now ", " now", "now 1", "now\n", "\nnow", "now now",
                    "totals ",
                    "totals a", "total", "bounds ", "bounds 1", "bounds p", "even ", "even a", "back ", "back 1",
                    "backs",
                    "go", "again", "far", "rest", "come", "leave", "turn", "way", "at", "ahead", "-", "help", "grid 1",
                    "sender d p 1 0 - still 1", "change p 1 1 - line", "; ", "now; now", "stepped", "place_of", "plan",
                    "state")

    def test_numbers(self):
        for word in ("x", "-1", "+1", "01", "00", "1/2", "2/1", "1.0", "", "-", "1 1", " 1", "1 ", "1000000000", "2001",
                     "999999999", "02000", "2000.0", "1e3"):
            self.refuse(NoLine, f"go {word}", f"again {word}", f"rest {word}", f"far {word} 5",
                        f"ahead {word} b sent still 1")
            if not word.isdigit() or word[0] == "0" or len(word) > 9:
                self.refuse(NoLine, f"far 99 {word}", f"at b {word}")
        self.refuse(NoLine, "far 5", "far 5 5 5", "far 5  5", "far 5 x", "far 0 x", "at b", "at b 1 1", "at  b 1",
                    "go 1 1",
                    "again 5 5", "rest 5 b")

    def test_2000_rounds(self):
        self.assertEqual(self.desk.say("again 2000"), self.desk.say("again 50"))
        self.assertEqual(self.desk.say("rest 2000"), self.desk.say("rest 50"))
        self.assertEqual(self.desk.say("far 2000 2001"), self.desk.say("far 50 2001"))
        self.assertEqual(self.desk.say("ahead 2000 b sent still 1"), "holds")
        self.desk.say("go 2000")
        self.assertEqual(self.desk.say("now"), "2003")

    def test_names(self):
        # No name at all is no form; a name of nobody is refused as the play does.
        for name in ("A", "", "ninechars", "a1", "-", "1", "a,b", "b ", "B"):
            self.refuse(NoLine, f"leave {name}", f"turn {name} still 1", f"way {name} 1 1 - line",
                        f"come {name} p 1 0 - still 1", f"at {name} 0", f"ahead 9 {name} sent still 1")
        for name in ("x", "p", "bb"):
            self.refuse(NoName, f"leave {name}", f"turn {name} still 1")
            self.refuse(NoLine, f"at {name} 0", f"ahead 9 {name} sent still 1")
        self.refuse(NoName, "leave a", "turn a still 1", "way x 1 1 - line", "way a 1 1 - line")
        self.refuse(NoLine, "ahead 9 a sent still 1")
        self.assertEqual(self.desk.say("at a 0"), "taken")

    def test_come(self):
        self.refuse(NoLine, "come d p 1 0 - still", "come d p 1 0 - still 1 1", "come d p 1 0 still 1",
                    "come d 1 0 - still 1",
                    "come d p 1 0 - stop 1", "come d p, 1 0 - still 1", "come d p 01 0 - still 1",
                    "come d p 1 0 - still 2/2",
                    "come sender d p 1 0 - still 1", "come d p 1 0 - still 1 ", "come  d p 1 0 - still 1",
                    "come d p - 0 - still 1",
                    "come d p 1 - - still 1", "come d p 1 0 - calm 2 1 1/2 1 2", "come d p 1000000000 0 - still 1")
        self.refuse(BadDeed, "come d x 1 0 - still 1", "come d q,p 1 0 - still 1", "come d p,p 1 0 - still 1",
                    "come d p 0 0 - still 1", "come d p 9 0 - still 1", "come d p 1 1000001 - still 1",
                    "come d p 1 0 1000001 still 1", "come d p 1 0 - still 1/2", "come d p 1 0 - still 61",
                    "come a x 1 0 - still 1", "come b p 1 0 - still 0")
        self.refuse(Taken, "come a p 1 0 - still 1", "come b p 1 0 - still 1", "come c q 1 0 - still 1")
        for name in "defgh":
            self.assertEqual(self.desk.say(f"come {name} p 1 0 - still 1"), "ok")
        self.refuse(BadDeed, "come i p 1 0 - still 1")
        self.refuse(Taken, "come h p 1 0 - still 1")

    def test_turn(self):
        self.refuse(NoLine, "turn b", "turn b ", "turn b still", "turn b still 1 1", "turn b stop 1", "turn b still x",
                    "turn still 1", "turn b step 1 1 1/2", "turn b calm 1 1 1/2 1 2", "turn a still 2/2",
                    "turn b  still 1",
                    "turn b still 1 ", "turn x still 01", "turn b still 4/1")
        self.refuse(BadDeed, "turn b still 0", "turn b still 61", "turn b step 1 1 1 2", "turn b swell 1 1 1/2 2",
                    "turn b calm 1 1 2 1 2", "turn a still 0", "turn x still 0")

    def test_way(self):
        self.refuse(NoLine, "way p", "way p 1 1 -", "way p 1 1 - line ", "way p 1 1 - lane", "way p 1/2 1 - line",
                    "way p 1 1 1/2 line", "way p 1 01 - line", "way p - 1 - line", "way p 1 1 line",
                    "way way p 1 1 - line",
                    "way p 1 1 1000000000 line")
        self.refuse(BadDeed, "way p 0 1 - line", "way p 21 1 - line", "way p 1 0 - line", "way p 1 61 - line",
                    "way p 1 1 61 turns", "way x 0 1 - line")

    def test_ahead(self):
        self.refuse(NoLine, "ahead 9", "ahead 9 b", "ahead 9 b sent", "ahead 9 b sent ", "ahead 9 b marked still 1",
                    "ahead 9 b Sent still 1", "ahead 9 b sent still", "ahead 9 b sent still 1 1",
                    "ahead 9 sent b still 1",
                    "ahead b sent still 1", "ahead 9 b still 1", "ahead 9 b sent still 2/2", "ahead 9  b sent still 1",
                    "ahead 9 b  still 1", "ahead 2001 b sent still 0", "ahead 9 a sent still 0",
                    "ahead 9 b take still 0")
        self.refuse(BadDeed, "ahead 9 b sent still 0", "ahead 0 b sent still 61", "ahead 9 c lost step 1 1 1 2")

    def test_back(self):
        self.assertEqual(self.desk.say("back"), "ok")
        self.assertEqual(self.desk.say("back"), "ok")
        self.refuse(NoDeed, "back")
        self.refuse(NoLine, "back ")

    def test_what_is_refused_is_not_undone(self):
        self.refuse(NoName, "leave x")
        self.refuse(NoLine, "go 2001")
        self.refuse(BadDeed, "way p 0 1 - line")
        self.assertEqual(self.desk.say("back"), "ok")
        self.assertEqual(self.desk.say("leave a"), "ok")


class Drawn(unittest.TestCase):
    def written_deed(self, deed):
        if deed[0] == "come":
            return "come " + written.show_sender(deed[1])
        if deed[0] == "turn":
            return f"turn {deed[1]} {written.show_rule(deed[2])}"
        return f"leave {deed[1]}" if deed[0] == "leave" else "way " + written.show_way(deed[1])

    def look(self, source, one, play, left):
        """The desk's answers against what the modules tell."""
        plan = play.plan()[:2] + (tuple([own for own in play.plan()[2] if own[0] not in left]),)
        self.assertEqual(one.say("now"), str(play.now()))
        self.assertEqual(one.say("totals"), joined(play.totals()))
        for kept in play.state()[1]:
            number = source.randint(0, kept[4] + 1)
            self.assertEqual(one.say(f"at {kept[0]} {number}"),
                             joined([place_of(play.plan(), play.state(), kept[0], number)]))
        most, n = source.choice([5, 40]), source.choice([0, 3, 41, 10 ** 6])
        found = again(plan, most)
        self.assertEqual(one.say(f"again {most}"), "-" if found is None else joined([found]))
        if found is None:
            self.assertEqual([one.say(f"far {most} {n}"), one.say(f"rest {most}")], ["-", "-"])
        else:
            self.assertEqual(one.say(f"far {most} {n}"), joined(sum(told_at(plan, found, n), ())))
            self.assertEqual(one.say(f"rest {most}"), joined(rest(plan, found)))
        self.assertEqual(one.say("bounds"), joined([row[:3] + (("some", "none")[row[3]],) for row in bounds(plan)]))
        self.assertEqual(one.say("even"), joined([row[:2] + (row[2] or "-",) for row in even(plan)]))
        return found is not None, self.look_ahead(source, one, plan, most) if plan[2] else None

    def look_ahead(self, source, one, plan, most):
        own = source.choice(plan[2])
        what = source.choice(["sent", "taken", "lost"])
        rule = source.choice([drawn.gentler_rule(source, own[5]), drawn.rule(source, most=6)])
        other = plan[:2] + (tuple([part[:5] + (rule,) if part == own else part for part in plan[2]]),)
        told = ahead(plan, other, own[0], what, most)
        wanted = "-" if told is None else f"fails {told[1]}" if told[0] == "fails" else "holds"
        self.assertEqual(one.say(f"ahead {most} {own[0]} {what} {written.show_rule(rule)}"), wanted)
        return wanted.split(" ")[0]

    def test_as_the_modules_tell(self):
        source = random.Random(110)
        seen = {}
        for turn in range(60):
            plan = drawn.plan(source)
            one, play, left = desk(plan), Play(plan), []
            for count in range(5):
                deed = drawn.deed(source, play.plan(), left)
                getattr(play, deed[0])(*deed[1:])
                self.assertEqual(one.say(self.written_deed(deed)), "ok")
                many = source.randint(0, 6)
                self.assertEqual(one.say(f"go {many}"), str(len(play.go(many))))
                if source.random() < 0.2:
                    play.back()
                    self.assertEqual(one.say("back"), "ok")
                left = [kept[0] for kept in play.state()[1] if kept[1] is None]
                for kind in self.look(source, one, play, left):
                    seen[kind] = seen.get(kind, 0) + 1
        self.assertGreater(min(seen[kind] for kind in (True, False, "holds", "fails", "-")), 10, seen)

    def test_refused_as_the_play_refuses(self):
        source = random.Random(111)
        seen = {}
        for turn in range(60):
            plan = drawn.plan(source)
            one, play = desk(plan), Play(plan)
            for count in range(12):
                # Deeds drawn for another plan of the same names, so that many fit and many do not.
                deed = drawn.deed(source, drawn.plan(source), [])
                answers = []
                for do in (lambda: getattr(play, deed[0])(*deed[1:]), lambda: one.say(self.written_deed(deed))):
                    try:
                        do()
                        answers.append("ok")
                    except WayError as error:
                        answers.append(type(error).__name__)
                self.assertEqual(answers[0], answers[1], deed)
                self.assertEqual(one.say("totals"), joined(play.totals()))
                seen[answers[0]] = seen.get(answers[0], 0) + 1
        self.assertGreater(min(seen[kind] for kind in ("ok", "BadDeed", "Taken", "NoName")), 5, seen)


if __name__ == "__main__":
    unittest.main()
