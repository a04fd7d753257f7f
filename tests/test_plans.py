"""Point 9: ways and plans."""

import random
import unittest

import drawn
from anything import Awkward, deep, spoiled, things
from swellways.plans import is_plan, is_way

WAY = ("w", 2, 5, 3, "line")
RULE = ("step", (2, 1), (1, 2), (1, 2), (10, 1))
WAYS = (("p", 2, 5, None, "line"), ("q", 1, 9, 0, "turns"), ("b", 20, 60, 60, "line"))
SENDERS = (("a", ("p", "b"), 2, 0, None, RULE), ("b", ("q",), 1, 3, 7, ("still", (2, 1))))
PLAN = (4, WAYS, SENDERS)
MILLION = 10 ** 6


def with_at(thing, place, part):
    return thing[:place] + (part,) + thing[place + 1:]


def named(names):
    """Senders of these names."""
    return tuple([(name, ("p",), 1, 0, None, RULE) for name in names])


class IsWay(unittest.TestCase):
    def check(self, place, parts, right):
        for part in parts:
            self.assertIs(is_way(with_at(WAY, place, part)), right, (place, part))

    def test_ordinary_ones(self):
        for way in (WAY,) + WAYS:
            self.assertIs(is_way(way), True)

    def test_names(self):
        self.check(0, ("a", "abcdefgh", "line"), True)
        self.check(0, ("", "abcdefghi", "A", "a b", "w1", None, 1, ("w",)), False)

    def test_pace(self):
        self.check(1, (1, 2, 20), True)
        self.check(1, (0, -1, 21, True, False, None, "1", 1.0, (1, 1)), False)

    def test_room(self):
        self.check(2, (1, 2, 60), True)
        self.check(2, (0, -1, 61, True, False, None, "1", 5.0, (5, 1)), False)

    def test_mark(self):
        self.check(3, (None, 0, 1, 5, 6, 60), True)
        self.check(3, (-1, 61, True, False, "None", "-", 0.0, (0, 1), ()), False)

    def test_sort(self):
        self.check(4, ("line", "turns"), True)
        self.check(4, ("", "Line", "turn", "lines", "line ", None, 0, True, ("line",), ["line"], b"line"), False)

    def test_of_anything(self):
        for thing in things():
            self.assertIs(is_way(thing), False)
        for way in (WAY,) + WAYS:
            for path, thing in spoiled(way):
                if path != (3,) or thing[3] is not None:
                    self.assertIs(is_way(thing), False, path)
        for thing in (deep(tuple), (deep(list),) * 5, (Awkward(),) * 5, WAY + ("line",), WAY[:4], list(WAY)):
            self.assertIs(is_way(thing), False)


class IsPlan(unittest.TestCase):
    def check(self, plan, right):
        self.assertIs(is_plan(plan), right, plan)

    def check_sender(self, place, parts, right):
        for part in parts:
            self.check((4, WAYS, (with_at(SENDERS[0], place, part), SENDERS[1])), right)

    def test_ordinary_ones(self):
        self.check(PLAN, True)
        source = random.Random(12)
        for turn in range(300):
            self.check(drawn.plan(source), True)

    def test_grid(self):
        for grid in (1, 2, 60):
            self.check(with_at(PLAN, 0, grid), True)
        for grid in (0, -1, 61, True, False, None, "1", 1.0, (1, 1)):
            self.check(with_at(PLAN, 0, grid), False)

    def test_how_many_ways(self):
        six = tuple([(name, 1, 1, None, "line") for name in ("p", "f", "e", "d", "c", "b")])
        self.check((1, six, ()), True)
        self.check((1, six + (("a", 1, 1, None, "line"),), ()), False)
        self.check((1, six[:1], ()), True)
        self.check((1, (), ()), False)
        self.check((1, six, (("a", ("p", "f", "e", "d", "c", "b"), 1, 0, None, RULE),)), True)

    def test_ways_of_one_name(self):
        self.check((1, (WAYS[0], WAYS[0]), ()), False)
        self.check((1, (WAYS[0], WAYS[1], ("p", 9, 9, 9, "turns")), ()), False)

    def test_a_wrong_way(self):
        for way in (("p", 0, 5, None, "line"), ("p", 1, 5, None, "lane"), ["p", 1, 5, None, "line"], None, ()):
            self.check((4, (way,) + WAYS[1:], ()), False)
            self.check((4, WAYS[:2] + (way,), ()), False)

    def test_how_many_senders(self):
        self.check((4, WAYS, ()), True)
        self.check((4, WAYS, named("abcdefgh")), True)
        self.check((4, WAYS, named("abcdefghi")), False)

    def test_order_of_senders(self):
        self.check((4, WAYS, named(("a", "aa", "ab", "b"))), True)
        self.check((4, WAYS, named(("b", "a"))), False)
        self.check((4, WAYS, named(("a", "c", "b"))), False)
        self.check((4, WAYS, named(("aa", "a"))), False)
        self.check((4, WAYS, named(("a", "a"))), False)
        self.check((4, WAYS, named(("a", "b", "b"))), False)

    def test_a_name_may_be_a_ways_and_a_senders(self):
        self.check((4, WAYS, named(("b", "p", "q"))), True)

    def test_senders_names(self):
        self.check_sender(0, ("a", "aaaaaaaa"), True)
        self.check_sender(0, ("", "aaaaaaaaa", "A", "a1", None, 1, ("a",)), False)

    def test_roads(self):
        self.check_sender(1, (("p",), ("q",), ("b",), ("p", "q"), ("p", "b"), ("q", "b"), ("p", "q", "b")), True)
        self.check_sender(1, ((), ("q", "p"), ("b", "p"), ("p", "b", "q"), ("p", "p"), ("p", "q", "q"), ("x",),
                              ("p", "x"), ("x", "p"), ["p"], "p", "b", (("p",),), ("p", None), (None,), (True,), None,
                              ("p", ""), ("P",), (["p"],), ({},), (Awkward(),), 1), False)

    def test_a_road_of_ways_that_other_plans_have(self):
        self.check((4, WAYS[:1], named(("a",))), True)
        self.check((4, WAYS[1:], named(("a",))), False)

    def test_beat(self):
        self.check_sender(2, (1, 2, 8), True)
        self.check_sender(2, (0, -1, 9, True, False, None, "1", 1.0), False)

    def test_begin(self):
        self.check_sender(3, (0, 1, MILLION), True)
        self.check_sender(3, (-1, MILLION + 1, True, False, None, "0", 0.0), False)

    def test_many(self):
        self.check_sender(4, (None, 0, 1, MILLION), True)
        self.check_sender(4, (-1, MILLION + 1, True, False, "-", 0.0, ()), False)

    def test_rule(self):
        self.check_sender(5, (RULE, ("still", (1, 1)), ("calm", (2, 1), (1, 2), 1, 3, (10, 1))), True)
        self.check_sender(5, (("still", (1, 2)), ("still",), "still", None, (), list(RULE), RULE[:4]), False)

    def test_one_more_or_fewer(self):
        for plan in (PLAN + ((),), PLAN[:2], PLAN[1:], (PLAN,), list(PLAN), (4, list(WAYS), SENDERS),
                     (4, WAYS, list(SENDERS)), (4, WAYS, (SENDERS[0] + (1,),)), (4, WAYS, (SENDERS[0][:5],)),
                     (4, WAYS, (list(SENDERS[0]),)), (4, WAYS, None), (4, None, SENDERS), (4, WAYS, {})):
            self.check(plan, False)

    def test_of_anything(self):
        for thing in things():
            self.assertIs(is_plan(thing), False)
        may_be_none = ((1, 0, 3), (1, 1, 3), (1, 2, 3), (2, 0, 4), (2, 1, 4))
        for path, thing in spoiled(PLAN):
            if path in may_be_none and thing[path[0]][path[1]][path[2]] is None:
                self.assertIs(is_plan(thing), True)
            elif path == (2,) and repr(thing[2]) in (repr(SENDERS[:1]), repr(SENDERS[1:])):
                self.assertIs(is_plan(thing), True)
            elif path == (2, 0, 1) and repr(thing[2][0][1]) in ("('p',)", "('b',)"):
                self.assertIs(is_plan(thing), True)
            else:
                self.assertIs(is_plan(thing), False, path)
        for thing in (deep(tuple), (4, deep(tuple), deep(tuple)), (4, WAYS, deep(tuple)), (Awkward(),) * 3):
            self.assertIs(is_plan(thing), False)


if __name__ == "__main__":
    unittest.main()
