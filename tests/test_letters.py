"""Points 15 and 3 (a): where a letter is in a state, and its story."""

import random
import unittest

import drawn
import plain
from swellways.letters import place_of, story
from swellways.likes import like_of
from swellways.rounds import begun, stepped
from swellways.runs import run
from test_rounds import NARROW, SHARED

# A window that halves at once, so that what was lost is not all sent again at the next beat.
HALVED = (1, (("w", 1, 1, None, "line"),), (("a", ("w",), 1, 0, None, ("step", (4, 1), (1, 1), (1, 2), (9, 1))),))
ROAD = (1, (("x", 3, 9, None, "line"), ("y", 1, 9, None, "turns"), ("z", 2, 1, None, "line")),
        (("a", ("x", "y", "z"), 1, 0, 3, ("still", (3, 1))), ("b", ("x", "z"), 2, 0, 2, ("still", (2, 1)))))


def own_events(rows, name, number):
    """The story of a letter, picked from the events of a run."""
    return [(turn, one[0], one[3]) for turn, row in enumerate(rows) for one in row if one[1:3] == (name, number)]


def has_beat(sender, first, last):
    """Whether a sender has a beat in one of the rounds from first to last."""
    return any(turn >= sender[3] and (turn - sender[3]) % sender[2] == 0 for turn in range(first, last + 1))


def kind_by_story(sender, told, many):
    """The place's word, and its way where it has one, by a letter's story in so many rounds."""
    if not told:
        return ("new",)
    turn, word, way = told[-1]
    if word == "in":
        return ("stands", way)
    if word == "out":
        return ("comes", sender[1][sender[1].index(way) + 1])
    if word == "lost":
        return ("again",) if has_beat(sender, turn + 1, many - 1) else ("lost",)
    return (word,)


class Place(unittest.TestCase):
    def places(self, plan, many, name, numbers):
        state = run(plan, many)[0]
        return [place_of(plan, state, name, number) for number in numbers]

    def test_all_six(self):
        self.assertEqual(self.places(NARROW, 1, "a", range(5)),
                         [("taken",), ("stands", "w", 0), ("lost",), ("new",), ("new",)])
        self.assertEqual(self.places(SHARED, 1, "a", range(3)), [("comes", "q", 0), ("stands", "p", 1), ("new",)])
        self.assertEqual(self.places(SHARED, 1, "b", range(3)), [("stands", "p", 0), ("lost",), ("new",)])
        self.assertEqual(self.places(SHARED, 1, "c", range(2)), [("new",), ("new",)])
        self.assertEqual(self.places(HALVED, 2, "a", range(5)),
                         [("taken",), ("taken",), ("lost",), ("again",), ("new",)])

    def test_at_first_all_are_new(self):
        for number in (0, 1, 10 ** 9):
            self.assertEqual(self.places(NARROW, 0, "a", [number]), [("new",)])

    def test_next_itself_is_new(self):
        for many in range(6):
            state = run(SHARED, many)[0]
            for kept in state[1]:
                self.assertEqual(place_of(SHARED, state, kept[0], kept[4]), ("new",))
                if kept[4] > 0:
                    self.assertNotEqual(place_of(SHARED, state, kept[0], kept[4] - 1), ("new",))

    def test_none_left_to_send(self):
        # Only four letters are there; a fifth one is never begun.
        self.assertEqual(self.places(NARROW, 9, "a", range(6)), [("taken",)] * 4 + [("new",)] * 2)

    def test_places_count_from_nought_among_letters_of_all(self):
        state = run(ROAD, 1)[0]
        self.assertEqual(state[0][0], ((), (("b", 1, 1, 0, 0), ("a", 2, 1, 0, 0)), ""))
        self.assertEqual(self.places(ROAD, 1, "a", range(3)), [("comes", "y", 0), ("comes", "y", 1), ("stands", "x", 1)])
        self.assertEqual(self.places(ROAD, 1, "b", range(2)), [("comes", "z", 0), ("stands", "x", 0)])

    def test_a_name_of_a_way_and_a_sender(self):
        plan = (1, (("a", 1, 9, None, "line"),), (("a", ("a",), 1, 0, 2, ("still", (2, 1))),
                                                  ("b", ("a",), 1, 0, 2, ("still", (2, 1)))))
        self.assertEqual(self.places(plan, 1, "a", range(3)), [("taken",), ("stands", "a", 1), ("new",)])
        self.assertEqual(self.places(plan, 1, "b", range(3)), [("stands", "a", 0), ("stands", "a", 2), ("new",)])

    def test_in_moved_states(self):
        state = run(HALVED, 2)[0]
        other = plain.moved(state, {"a": 1000})
        self.assertEqual([place_of(HALVED, other, "a", 1000 + number) for number in range(5)],
                         [place_of(HALVED, state, "a", number) for number in range(5)])
        self.assertEqual([place_of(HALVED, like_of(state), "a", number - 4) for number in range(5)],
                         [place_of(HALVED, state, "a", number) for number in range(5)])

    def test_of_drawn_states_each_letter_is_told_once(self):
        source = random.Random(30)
        for turn in range(60):
            plan, many = drawn.plan(source), source.randint(0, 50)
            state, taken = begun(plan), set()
            for count in range(many):
                state, told = stepped(plan, state)
                taken |= {one[1:3] for one in told if one[0] == "taken"}
            places = {}
            for kept in state[1]:
                for number in range(kept[4]):
                    places[(kept[0], number)] = place_of(plan, state, kept[0], number)
            for way, kept in zip(plan[1], state[0]):
                for word, letters in (("comes", kept[0]), ("stands", kept[1])):
                    here = {place: key for key, place in places.items() if place[:2] == (word, way[0])}
                    self.assertEqual(here, {(word, way[0], place): one[:2] for place, one in enumerate(letters)})
            self.assertEqual({key for key, place in places.items() if place == ("taken",)}, taken)
            for word, which in (("again", 6), ("lost", 7)):
                self.assertEqual(sorted(key for key, place in places.items() if place == (word,)),
                                 [(kept[0], number) for kept in state[1] for number in kept[which]])

    def test_of_drawn_states_places_agree_with_stories(self):
        source = random.Random(31)
        for turn in range(60):
            plan, many = drawn.plan(source), source.randint(1, 40)
            state, rows = run(plan, many)
            for sender, kept in zip(plan[2], state[1]):
                for number in range(kept[4] + 2):
                    told = own_events(rows, sender[0], number)
                    place = place_of(plan, state, sender[0], number)
                    self.assertEqual(place[:2], kind_by_story(sender, told, many), (plan, many, sender, number))
                    self.assertLessEqual([word for when, word, way in told].count("taken"), 1)
                    if ("taken",) == place:
                        self.assertEqual(told[-1][1:], ("taken", sender[1][-1]))


class Story(unittest.TestCase):
    def test_by_hand(self):
        self.assertEqual(story(SHARED, "a", 0, 4),
                         [(0, "sent", "p"), (0, "in", "p"), (0, "out", "p"), (1, "in", "q"), (1, "taken", "q")])
        self.assertEqual(story(SHARED, "b", 1, 4),
                         [(0, "sent", "p"), (0, "lost", "p"), (1, "sent", "p"), (1, "in", "p"), (3, "taken", "p")])
        self.assertEqual(story(NARROW, "a", 2, 9),
                         [(0, "sent", "w"), (0, "lost", "w"), (2, "sent", "w"), (2, "in", "w"), (2, "taken", "w")])

    def test_cut_off_where_the_rounds_end(self):
        whole = story(SHARED, "b", 1, 4)
        for many in range(5):
            self.assertEqual(story(SHARED, "b", 1, many), [one for one in whole if one[0] < many])

    def test_nothing_to_tell(self):
        self.assertEqual(story(NARROW, "a", 0, 0), [])
        self.assertEqual(story(NARROW, "a", 3, 4), [])
        self.assertEqual(story(NARROW, "a", 4, 100), [])
        self.assertEqual(story(NARROW, "a", 10 ** 9, 10), [])

    def test_lost_on_a_later_way(self):
        plan = (1, (("p", 9, 9, None, "line"), ("q", 1, 1, None, "line")),
                (("a", ("p", "q"), 3, 0, None, ("still", (2, 1))),))
        self.assertEqual(story(plan, "a", 1, 5), [
            (0, "sent", "p"), (0, "in", "p"), (0, "out", "p"), (1, "lost", "q"),
            (3, "sent", "p"), (3, "in", "p"), (3, "out", "p"), (4, "in", "q"), (4, "taken", "q")])

    def test_drawn(self):
        source = random.Random(32)
        for turn in range(40):
            plan, many = drawn.plan(source), source.randint(0, 40)
            other = plain.PlainRun(plan)
            rows = [other.step() for count in range(many)]
            for sender in plan[2]:
                for number in (0, 1, source.randint(0, 60)):
                    self.assertEqual(story(plan, sender[0], number, many), own_events(rows, sender[0], number))

    def test_lists_are_new(self):
        before = repr(SHARED)
        first = story(SHARED, "a", 0, 4)
        self.assertIs(type(first), list)
        first.append("spoiled")
        self.assertNotIn("spoiled", story(SHARED, "a", 0, 4))
        self.assertEqual(repr(SHARED), before)

    def test_many_rounds(self):
        told = story(NARROW, "a", 3, 2000)
        self.assertEqual(told, [(4, "sent", "w"), (4, "in", "w"), (4, "taken", "w")])


if __name__ == "__main__":
    unittest.main()
