"""Points 10 and 11, and 3 (e) of ways by turns: letters come in to ways and are let out."""

import random
import unittest

import drawn
from swellways.ways import let_out, taken_in


def letter(name, number, marked=0):
    return (name, number, 3, 1, marked)


def row(words, marks=""):
    """Letters, numbered from 0, of these names, marked where an x stands."""
    marks = marks or "." * len(words)
    return tuple([letter(name, number, int(mark == "x")) for number, (name, mark) in enumerate(zip(words, marks))])


def marks_of(letters):
    return "".join(["x" if one[4] else "." for one in letters])


def names_of(letters):
    return "".join([one[0] for one in letters])


class TakenIn(unittest.TestCase):
    def test_put_behind_all(self):
        letters = row("abcab")
        self.assertEqual(taken_in(("w", 1, 9, None, "line"), letters[:2], letters[2:]), (letters, ()))
        self.assertEqual(taken_in(("w", 1, 9, None, "turns"), (), letters), (letters, ()))

    def test_none(self):
        letters = row("ab")
        self.assertEqual(taken_in(("w", 1, 9, 0, "line"), letters, ()), (letters, ()))
        self.assertEqual(taken_in(("w", 1, 9, 0, "line"), (), ()), ((), ()))

    def test_lost_where_as_many_stand_as_the_room(self):
        letters = row("abcabc")
        for room in range(1, 8):
            told = taken_in(("w", 1, room, None, "line"), letters[:1], letters[1:])
            self.assertEqual(told, (letters[:room], letters[room:]))

    def test_more_stand_than_the_room(self):
        letters = row("abcabc")
        self.assertEqual(taken_in(("w", 1, 2, 0, "line"), letters[:4], letters[4:]), (letters[:4], letters[4:]))
        self.assertEqual(taken_in(("w", 1, 4, 0, "line"), letters[:4], letters[4:]), (letters[:4], letters[4:]))

    def test_marks(self):
        letters = row("abcabc")
        for mark, marks in ((None, "......"), (0, ".xxxxx"), (1, ".xxxxx"), (2, "..xxxx"), (5, ".....x"),
                            (6, "......"), (60, "......")):
            stands, lost = taken_in(("w", 1, 6, mark, "line"), letters[:1], letters[1:])
            self.assertEqual((marks_of(stands), lost), (marks, ()))
            self.assertEqual([one[:4] for one in stands], [one[:4] for one in letters])

    def test_mark_of_nought_marks_the_first(self):
        self.assertEqual(taken_in(("w", 1, 6, 0, "line"), (), row("a")), (row("a", "x"), ()))

    def test_mark_at_the_room_marks_none(self):
        told = taken_in(("w", 1, 3, 3, "line"), (), row("abcd"))
        self.assertEqual(told, (row("abc"), (letter("d", 3),)))

    def test_a_mark_stays(self):
        letters = row("abcd", "x.x.")
        for mark in (None, 3, 60):
            stands, lost = taken_in(("w", 1, 3, mark, "line"), (), letters)
            self.assertEqual((stands, lost), (letters[:3], letters[3:]))

    def test_lost_ones_are_as_they_came(self):
        letters = row("abcd", "..x.")
        self.assertEqual(taken_in(("w", 1, 1, 0, "line"), (), letters)[1], letters[1:])

    def test_marks_on_standing_ones_stay_as_they_are(self):
        letters = row("abc", ".x.")
        self.assertEqual(taken_in(("w", 1, 9, 0, "line"), letters, ()), (letters, ()))


class LetOutOfALine(unittest.TestCase):
    def test_pace(self):
        letters = row("cabbca")
        for pace in range(1, 9):
            told = let_out(("w", pace, 9, None, "line"), ("a", "b", "c"), letters, "")
            self.assertEqual(told, (letters[:pace], letters[pace:], ""))

    def test_none_stands(self):
        self.assertEqual(let_out(("w", 3, 9, None, "line"), ("a", "b"), (), ""), ((), (), ""))
        self.assertEqual(let_out(("w", 3, 9, None, "line"), (), (), ""), ((), (), ""))

    def test_longer_than_the_room(self):
        letters = row("abcabc")
        self.assertEqual(let_out(("w", 5, 1, None, "line"), ("a", "b", "c"), letters, ""),
                         (letters[:5], letters[5:], ""))

    def test_last_of_a_line_is_always_empty(self):
        letters = row("ab")
        for last in ("", "a", "b"):
            self.assertEqual(let_out(("w", 1, 9, None, "line"), ("a", "b"), letters, last),
                             (letters[:1], letters[1:], ""))


class LetOutByTurns(unittest.TestCase):
    def check(self, pace, words, last, out, stays, then, names=("a", "b", "c", "d")):
        letters = row(words)
        told = let_out(("w", pace, 9, None, "turns"), names, letters, last)
        self.assertEqual((names_of(told[0]), names_of(told[1]), told[2]), (out, stays, then))
        self.assertEqual(sorted(told[0] + told[1]), sorted(letters))
        for name in names:
            gone = [one[1] for one in told[0] if one[0] == name]
            left = [one[1] for one in told[1] if one[0] == name]
            self.assertEqual(gone + left, [one[1] for one in letters if one[0] == name])
        self.assertEqual([one[1] for one in told[1]], sorted([one[1] for one in told[1]]))

    def test_from_the_least_name_on(self):
        self.check(1, "cbba", "", "a", "cbb", "a")
        self.check(2, "cbba", "", "ab", "cb", "b")
        self.check(3, "cbba", "", "abc", "b", "c")
        self.check(4, "cbba", "", "abcb", "", "b")
        self.check(1, "cb", "", "b", "c", "b")

    def test_behind_the_last(self):
        self.check(1, "cbba", "a", "b", "cba", "b")
        self.check(1, "cbba", "b", "c", "bba", "c")
        self.check(1, "cbba", "c", "a", "cbb", "a")
        self.check(1, "cbba", "d", "a", "cbb", "a")
        self.check(3, "cbba", "b", "cab", "b", "b")

    def test_those_of_which_none_stands_are_passed_over(self):
        self.check(1, "aad", "a", "d", "aa", "d")
        self.check(3, "aad", "b", "daa", "", "a")
        self.check(1, "aa", "a", "a", "a", "a")

    def test_more_pace_than_stands(self):
        self.check(20, "aabb", "", "abab", "", "b")
        self.check(20, "aaab", "", "abaa", "", "a")

    def test_none_stands(self):
        for last in ("", "a", "d"):
            self.check(3, "", last, "", "", last)
        self.check(3, "", "", "", "", "", ())

    def test_longer_than_the_room(self):
        letters = row("abababab")
        told = let_out(("w", 3, 1, None, "turns"), ("a", "b"), letters, "a")
        self.assertEqual((names_of(told[0]), names_of(told[1]), told[2]), ("bab", "aabab", "b"))

    def test_names_rise_as_texts_do(self):
        letters = (letter("b", 0), letter("ab", 0), letter("a", 0))
        told = let_out(("w", 2, 9, None, "turns"), ("a", "ab", "b"), letters, "a")
        self.assertEqual(told, ((letters[1], letters[0]), (letters[2],), "b"))

    def test_nothing_is_changed(self):
        letters = row("cbba")
        let_out(("w", 2, 9, None, "turns"), ("a", "b", "c"), letters, "")
        self.assertEqual(letters, row("cbba"))


class EvenTurns(unittest.TestCase):
    def test_neither_more_than_one_more(self):
        source = random.Random(13)
        names = ("a", "b", "bb", "c")
        for turn in range(200):
            way = ("w", source.randint(1, 6), 60, None, "turns")
            standing, last = drawn.letters(source, names, source.randint(0, 30)), ""
            counts = {}
            for part in range(6):
                standing = taken_in(way, standing, drawn.letters(source, names, source.randint(0, 8)))[0]
                out, behind, last = let_out(way, names, standing, last)
                left = list(standing)
                for one in out:
                    self.count(counts, names, left, one[0])
                    left.remove(one)
                self.assertEqual(tuple(left), behind)
                standing = behind

    def count(self, counts, names, left, gone):
        """Counts one letter let out for each two senders; where not both stand the count begins anew."""
        there = [one[0] for one in left]
        for one in names:
            for other in names:
                if one in there and other in there and one < other:
                    more = counts.get((one, other), (0, 0))
                    more = (more[0] + (gone == one), more[1] + (gone == other))
                    counts[(one, other)] = more
                    self.assertLessEqual(abs(more[0] - more[1]), 1)
                else:
                    counts.pop((one, other), None)


if __name__ == "__main__":
    unittest.main()
