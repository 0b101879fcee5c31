import unittest
from random import Random

from barredrows.errors import NothingLeft, TooMany
from barredrows.media import Medium
from tests.helpers import all_rows_to, allowed_by, rows_going_on
from tests.test_media import random_media


def stands_often(row, sign, limit):
    return sign * (limit + 1) in row


def sums_of(row, steps):
    """The sums of the steps of all beginnings of the row."""
    found = [0]
    for sign in row:
        found.append(found[-1] + steps["abcd".index(sign)])
    return found


def both_go_on(one, other, row):
    """Whether both media allow the row, and rows of more signs than there are pairs of states behind it."""
    pairs = {(one.after(row), other.after(row))}
    first, second = one.table(), other.table()
    for _ in range(len(one) * len(other) + 1):
        pairs = {
            (first[state][sign], second[beside][sign])
            for state, beside in pairs if state is not None and beside is not None
            for sign in first[state] if sign in second[beside]
        }
    return bool(pairs)


class Makers(unittest.TestCase):
    def test_free(self):
        for many in (2, 3, 4):
            medium = Medium.free(many=many)
            self.assertEqual(medium.table(), [{sign: 0 for sign in "abcd"[:many]}])
            self.assertEqual(allowed_by(medium, 3), all_rows_to("abcd"[:many], 3))

    def test_barring(self):
        random = Random(5)
        for _ in range(80):
            many = random.randrange(2, 4)
            signs = "abcd"[:many]
            words = [
                "".join([random.choice(signs) for _ in range(random.randrange(1, 4))])
                for _ in range(random.randrange(1, 7))
            ]
            expected = rows_going_on(lambda row: not any(word in row for word in words), signs, 5, 7)
            try:
                medium = Medium.barring(many, *words)
            except NothingLeft:
                self.assertEqual(expected, [], words)
                continue
            self.assertEqual(allowed_by(medium, 5), expected, words)

    def test_barring_long_words(self):
        medium = Medium.barring(2, "aabaaabb")
        self.assertEqual(len(medium), 8)
        self.assertFalse("aabaabaaabb" in medium)
        self.assertTrue("aabaaabaaab" in medium)
        self.assertEqual(medium.after("aabaaabaa"), medium.after("aabaa"))
        eight = ["aaaa", "aaab", "aaba", "aabb", "abaa", "abab", "abba", "abbb"]
        self.assertEqual(Medium.barring(2, *eight).table(), [{"b": 0}])

    def test_barring_leaves_what_goes_on(self):
        self.assertEqual(Medium.barring(2, "aa", "ab").table(), [{"b": 0}])

    def test_runs(self):
        for many, limits in ((2, {"a": 1}), (2, {"b": 2}), (2, {"a": 2, "b": 1}), (2, {"b": 1, "a": 1}),
                             (3, {"a": 1, "c": 2}), (4, {"d": 1, "b": 1}), (4, {"a": 1, "b": 1, "c": 1, "d": 1})):
            medium = Medium.runs(many, **limits)
            expected = [
                row for row in all_rows_to("abcd"[:many], 5)
                if not any(stands_often(row, sign, limit) for sign, limit in limits.items())
            ]
            self.assertEqual(allowed_by(medium, 5), expected, limits)

    def test_long_runs(self):
        medium = Medium.runs(2, a=15)
        self.assertTrue("a" * 15 + "b" + "a" * 15 in medium)
        self.assertFalse("b" + "a" * 16 in medium)
        self.assertEqual(Medium.runs(3, a=1, b=1, c=1), Medium.barring(3, "aa", "bb", "cc"))

    def test_sums(self):
        for steps, low, high in (((1, -1), -1, 1), ((1, 0), 0, 2), ((2, -3), -3, 4), ((9, -9), -9, 6),
                                 ((9, -9, 1), -3, 9), ((1, 2, -2, 0), -1, 2), ((0, 0), 0, 0), ((-1, 4), -4, 0)):
            medium = Medium.sums(*steps, low=low, high=high)
            expected = rows_going_on(
                lambda row: all(low <= total <= high for total in sums_of(row, steps)), "abcd"[:len(steps)], 5, 8)
            self.assertEqual(allowed_by(medium, 5), expected, steps)

    def test_sixteen_sums(self):
        self.assertEqual(len(Medium.sums(1, -1, low=0, high=15)), 16)
        self.assertEqual(len(Medium.sums(1, -1, low=-15, high=0)), 16)
        self.assertEqual(len(Medium.sums(1, -1, low=-7, high=8)), 16)
        self.assertEqual(Medium.sums(9, -9, low=0, high=9).table(), [{"a": 1}, {"b": 0}])


class Pairs(unittest.TestCase):
    def test_meet(self):
        media = [medium for _, medium in random_media(6, 40)]
        for one in media:
            for other in media:
                if one.many == other.many:
                    self.check_meet(one, other)

    def check_meet(self, one, other):
        expected = [row for row in all_rows_to(one.signs, 3) if both_go_on(one, other, row)]
        try:
            meet = one & other
        except NothingLeft:
            self.assertEqual(expected, [])
            return
        except TooMany:
            return
        self.assertEqual(allowed_by(meet, 3), expected)
        self.assertEqual(meet, other & one)
        self.assertEqual(meet & one, meet)
        self.assertTrue(meet.is_within(one) and meet.is_within(other))
        self.assertIs(one.is_within(other), meet == one)

    def test_meet_of_barred_words(self):
        self.assertEqual(Medium.barring(2, "bb") & Medium.barring(2, "aaa"), Medium.barring(2, "aaa", "bb"))
        self.assertEqual(Medium.runs(3, a=2) & Medium.runs(3, b=1, c=3), Medium.runs(3, a=2, b=1, c=3))
        self.assertEqual(Medium.sums(1, -1, low=-1, high=3) & Medium.sums(1, -1, low=-2, high=1),
                         Medium.sums(1, -1, low=-1, high=1))

    def test_meet_bars_what_cannot_go_on(self):
        # Both allow ab, but then one goes on with a, the other one with b.
        one, other = Medium.barring(2, "bb"), Medium(2, [{"a": 0, "b": 1}, {"b": 1}])
        self.assertEqual((one & other).table(), [{"a": 0}])

    def test_meet_by_plain_rows(self):
        one, other = Medium.barring(2, "aba"), Medium.sums(1, -1, low=-2, high=2)
        expected = rows_going_on(lambda row: row in one and row in other, "ab", 7, 8)
        self.assertEqual(allowed_by(one & other, 7), expected)

    def test_follow(self):
        for _, medium in random_media(7, 80):
            for row in allowed_by(medium, 2):
                follow = medium >> row
                expected = [rest for rest in all_rows_to(medium.signs, 3) if row + rest in medium]
                self.assertEqual(allowed_by(follow, 3), expected)
                self.assertEqual(follow.many, medium.many)
            self.assertEqual(medium >> "", medium)

    def test_is_within(self):
        media = [medium for _, medium in random_media(8, 40) if medium.many == 2]
        for one in media:
            for other in media:
                rows = set(allowed_by(other, 9))
                within = all(row in rows for row in allowed_by(one, 9))
                self.assertIs(one.is_within(other), within)
        self.assertIs(media[0].is_within(other=media[0]), True)

    def test_nothing_changes(self):
        one, other = Medium.barring(2, "bb"), Medium.sums(1, -1, low=-1, high=1)
        shown = [repr(one), repr(other)]
        one & other, one >> "ab", one.is_within(other), one == other
        self.assertEqual([repr(one), repr(other)], shown)
