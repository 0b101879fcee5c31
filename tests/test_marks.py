import unittest
from random import Random

from barredrows.errors import InvalidMark, InvalidMedium, InvalidRow, NothingLeft, TooMany
from barredrows.marks import clear_rows, join
from barredrows.media import Medium
from tests.helpers import NO_ROWS, OTHERS, all_rows, all_rows_to, allowed_by, check_error, rows_going_on
from tests.test_media import random_media

BB = Medium.barring(2, "bb")
SUMS = Medium.sums(1, -1, low=-1, high=1)
FREE = Medium.free(2)
NO_MARKS = (*NO_ROWS, *OTHERS, "", "a" * 9, "abcdabcda", ["a", "b"])


def stands_at_end_only(row, mark):
    return row.endswith(mark) and row.find(mark) == len(row) - len(mark)


def plain_join(medium, mark, row, most):
    """The first row of at most so many signs, in order, by which the mark is joined."""
    for added in all_rows_to(medium.signs, most):
        if row + added + mark in medium and stands_at_end_only(row + added + mark, mark):
            return added
    return None


def some_marks(random, medium):
    """Marks that stand in allowed rows, mostly."""
    rows = [row for row in allowed_by(medium, 4) if row]
    return [random.choice(rows) for _ in range(3)] + ["".join(random.choice("abcd") for _ in range(2))]


class ClearRows(unittest.TestCase):
    def test_against_a_plain_listing(self):
        random = Random(701)
        met = {True: 0, False: 0, None: 0}
        for _, medium in random_media(702, 150):
            if medium.many > 3 or len(medium) > 6:
                continue
            for mark in some_marks(random, medium):
                # Behind so many signs there was a state twice, with the same that was begun of the mark.
                further = 6 if medium.many == 2 else 4

                def is_good(row):
                    return row in medium and mark not in row

                plain = rows_going_on(is_good, medium.signs, 4, further)
                try:
                    found = clear_rows(medium, mark)
                except NothingLeft:
                    found = None
                except TooMany:
                    continue
                told = allowed_by(found, 4) if found is not None else []
                self.assertTrue(set(told) <= set(plain))
                if len(medium) * len(mark) <= further:
                    self.assertEqual(told, plain)
                    met[None] += 1
                met[found is not None] += 1
        self.assertGreater(min(met.values()), 15)

    def test_longer_rows(self):
        for medium, mark in ((BB, "ab"), (SUMS, "ab"), (FREE, "aaa"), (FREE, "abab"), (Medium.free(3), "cc"),
                             (Medium.runs(2, a=3, b=2), "bb"), (Medium.runs(2, a=3, b=2), "abba"), (BB, "aaa")):
            try:
                found = clear_rows(medium, mark)
            except NothingLeft:
                found = None
            plain = rows_going_on(lambda row: row in medium and mark not in row, medium.signs, 5, 9)
            self.assertEqual(allowed_by(found, 5) if found is not None else [], plain)

    def test_some(self):
        self.assertTrue(clear_rows(FREE, "bb") == BB)
        self.assertTrue(clear_rows(mark="bb", medium=FREE) == BB)
        self.assertTrue(clear_rows(BB, "bb") == BB)
        self.assertEqual(clear_rows(FREE, "a").table(), [{"b": 0}])
        self.assertEqual(clear_rows(BB, "b").table(), [{"a": 0}])
        self.assertEqual(clear_rows(FREE, "ab").table(), [{"a": 1, "b": 0}, {"a": 1}])
        # Behind an a there is no clear row that goes on, so that it is left out.
        self.assertEqual(clear_rows(Medium(3, [{"a": 1, "b": 0}, {"c": 0}]), "c").table(), [{"b": 0}])
        # A mark with signs that the medium does not have stands nowhere.
        for mark in ("c", "d", "ac", "dddddddd", "bad"):
            self.assertTrue(clear_rows(BB, mark) == BB)
        self.assertEqual(clear_rows(FREE, "abbababb").many, 2)
        self.assertEqual([len(clear_rows(FREE, "abbababb")), len(clear_rows(FREE, "aaaaaaaa"))], [8, 8])
        self.assertEqual(BB.table(), [{"a": 0, "b": 1}, {"a": 0}])

    def test_nothing_left(self):
        check_error(self, NothingLeft, clear_rows, BB, "a")
        check_error(self, NothingLeft, clear_rows, SUMS, "a")
        check_error(self, NothingLeft, clear_rows, SUMS, "b")
        check_error(self, NothingLeft, clear_rows, Medium(2, [{"a": 0}]), "aaaaaaaa")
        check_error(self, NothingLeft, clear_rows, Medium(2, [{"a": 1}, {"b": 1}]), "bbbbbbbb")
        # The rows of one b and then a alone go on, those with an a first do not.
        check_error(self, NothingLeft, clear_rows, Medium(2, [{"a": 1, "b": 1}, {"a": 1}]), "aa")

    def test_most_states(self):
        steps = Medium.sums(1, -1, low=-7, high=8)
        self.assertEqual(len(steps), 16)
        check_error(self, TooMany, clear_rows, steps, "abab", what="states", limit=16)
        # The places in runs of a and of b, and the beginning.
        self.assertEqual(len(clear_rows(Medium.runs(2, a=12), "bbbb")), 1 + 12 + 3)
        check_error(self, TooMany, clear_rows, Medium.runs(2, a=13), "bbbb", what="states", limit=16)
        # There may be more states on the way, if they are like in the end.
        self.assertTrue(clear_rows(steps, "c") == steps)

    def test_no_marks_no_media(self):
        for value in NO_MARKS:
            check_error(self, InvalidMark, clear_rows, BB, value, value=value)
            check_error(self, InvalidMark, join, BB, value, None, value=value)
        for value in (*OTHERS, BB.table()):
            check_error(self, InvalidMedium, clear_rows, value, None, value=value)
            check_error(self, InvalidMedium, join, value, None, None, value=value)


class Joins(unittest.TestCase):
    def test_against_a_plain_listing(self):
        random = Random(703)
        met = {}
        for _, medium in random_media(704, 150):
            if medium.many > 3 or len(medium) > 6:
                continue
            for mark in some_marks(random, medium):
                for row in random.choices([row for row in allowed_by(medium, 4) if mark not in row], k=4):
                    found = join(medium, mark, row)
                    most = 5 if medium.many == 2 else 4
                    plain = plain_join(medium, mark, row, most)
                    if found is None or len(found) <= most:
                        self.assertEqual(found, plain)
                    else:
                        self.assertIsNone(plain)
                        self.assertIn(row + found + mark, medium)
                        self.assertTrue(stands_at_end_only(row + found + mark, mark))
                    length = None if found is None else len(found)
                    met[length] = met.get(length, 0) + 1
        self.assertGreater(min(met[None], met[0], met[1], met[2]), 15)

    def test_all_marks_of_free_rows(self):
        for mark in all_rows_to("ab", 4)[1:]:
            for row in all_rows("ab", 4):
                if mark not in row:
                    self.assertEqual(join(FREE, mark, row), plain_join(FREE, mark, row, 4))

    def test_some(self):
        self.assertEqual([join(BB, "aaa", "aa"), join(BB, "aaa", "b"), join(BB, "aaa", "")], ["b", "", ""])
        self.assertEqual([join(FREE, "aa", "a"), join(row="a", mark="aa", medium=FREE)], ["b", "b"])
        # The mark cannot follow, or not without standing there before.
        self.assertEqual([join(BB, "bb", "a"), join(BB, "c", ""), join(BB, "ad", "a"), join(FREE, "d", "ab")],
                         [None] * 4)
        self.assertIsNone(join(Medium(2, [{"a": 0}]), "aa", "a"))
        self.assertEqual(join(Medium(2, [{"a": 0}]), "aa", ""), "")
        # It must be allowed that the row goes on behind the mark.
        dead = Medium(3, [{"a": 1, "b": 0, "c": 2}, {"b": 0, "c": 3}, {"a": 0}, {}])
        self.assertEqual([join(dead, "ac", ""), join(dead, "ca", "b"), join(dead, "aa", "c")], ["c", "", ""])
        self.assertEqual([join(dead, "ab", "a"), join(dead, "aba", "ab")], [None, "b"])
        self.assertEqual([join(FREE, "a", ""), join(FREE, "a", "b" * 2000), join(FREE, "a", "bb")], ["", "", ""])
        self.assertEqual([join(SUMS, "aa", "a"), join(SUMS, "aa", ""), join(SUMS, "aa", "b")], ["bb", "b", ""])

    def test_marks_of_8_signs(self):
        for mark in ("aaaaaaaa", "abababab", "abbababb", "babbabba"):
            for row in ("", mark[:7], mark[1:], mark[:4], "bb" + mark[:5], mark[2:] + mark[:6]):
                if mark not in row:
                    self.assertEqual(join(FREE, mark, row), plain_join(FREE, mark, row, 6))

    def test_rows_that_are_not_clear(self):
        for value in (*NO_ROWS, "aaa", "baaab", "bb", "abb", "c", "ac", "ab" * 1000 + "a", "ab" * 1001):
            check_error(self, InvalidRow, join, BB, "aaa", value, value=value)
        self.assertEqual(join(BB, "aaa", "ab" * 1000), "")
        check_error(self, InvalidRow, join, BB, "a", "a", value="a")
        # A row that is not allowed, although each sign can be walked.
        check_error(self, InvalidRow, join, Medium(3, [{"a": 1, "b": 0}, {"c": 0}]), "cc", "aa", value="aa")
