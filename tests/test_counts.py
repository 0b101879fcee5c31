import unittest

from barredrows.counts import count, number_of, row_at, rows
from barredrows.errors import InvalidCount, InvalidMedium, InvalidNumber, InvalidRow, InvalidState, TooMany
from barredrows.media import Medium
from tests.helpers import NO_INTEGERS, NO_ROWS, OTHERS, all_rows, check_error
from tests.test_media import random_media

BB = Medium.barring(2, "bb")
NO_COUNTS = (*NO_INTEGERS, -1, 401, 10 ** 30)
NO_STATES = (*NO_INTEGERS, -1, 2, 64)


def first_of_rows(*told):
    """Ask the generator for its first element."""
    for row in rows(*told):
        return row


class Counts(unittest.TestCase):
    def test_against_a_plain_listing(self):
        for _, medium in random_media(10, 40):
            for state in range(len(medium)):
                for length in range(5):
                    plain = [row for row in all_rows(medium.signs, length) if medium.after(row, state) is not None]
                    self.assertEqual(count(medium, length, state), len(plain))
                    self.assertEqual(list(rows(medium, length, state)), plain)
                    self.assertEqual([row_at(medium, length, at, state) for at in range(len(plain))], plain)
                    self.assertEqual([number_of(medium, row, state) for row in plain], list(range(len(plain))))

    def test_state_0(self):
        self.assertEqual(count(BB, 8), 55)
        self.assertEqual(list(rows(BB, 3)), ["aaa", "aab", "aba", "baa", "bab"])
        self.assertEqual(list(rows(BB, 2, 1)), ["aa", "ab"])
        self.assertEqual([row_at(BB, 3, 2), number_of(BB, "bab")], ["aba", 4])

    def test_by_name(self):
        self.assertEqual(count(length=3, state=1, medium=BB), 3)
        self.assertEqual(row_at(number=1, length=3, state=1, medium=BB), "aab")
        self.assertEqual(number_of(row="aab", state=1, medium=BB), 1)
        self.assertEqual(list(rows(length=1, state=1, medium=BB)), ["a"])

    def test_no_signs(self):
        for state in (0, 1):
            self.assertEqual(count(BB, 0, state), 1)
            self.assertEqual(row_at(BB, 0, 0, state), "")
            self.assertEqual(number_of(BB, "", state), 0)
            self.assertEqual(list(rows(BB, 0, state)), [""])

    def test_longest(self):
        free = Medium.free(4)
        self.assertEqual(count(free, 400), 4 ** 400)
        self.assertEqual(row_at(free, 400, 4 ** 400 - 1), "d" * 400)
        self.assertEqual(row_at(free, 400, 0), "a" * 400)
        self.assertEqual(number_of(free, "d" * 400), 4 ** 400 - 1)
        self.assertEqual(number_of(free, "a" * 399 + "c"), 2)
        last = count(BB, 400, 1) - 1
        self.assertEqual(row_at(BB, 400, last, 1), "ab" * 200)
        self.assertEqual(number_of(BB, "ab" * 200, 1), last)
        one = Medium(2, [{"b": 0}])
        self.assertEqual(list(rows(one, 400)), ["b" * 400])

    def test_numbers_and_rows_agree(self):
        medium = Medium.sums(1, -2, 3, low=-4, high=4)
        for length in (7, 50, 400):
            most = count(medium, length)
            for number in (0, 1, most // 3, most // 2, most - 2, most - 1):
                row = row_at(medium, length, number)
                self.assertEqual(len(row), length)
                self.assertTrue(row in medium)
                self.assertEqual(number_of(medium, row), number)

    def test_most_rows(self):
        medium = with_5000_rows()
        for length in (10, 11, 400):
            self.assertEqual(count(medium, length), 5000)
            found = list(rows(medium, length))
            self.assertEqual(len(found), 5000)
            self.assertEqual(found, sorted(set(found)))
            self.assertEqual(found[4999], row_at(medium, length, 4999))
        more = with_5000_rows({"c": 14})
        for length in (10, 400):
            self.assertEqual(count(more, length), 5001)
            check_error(self, TooMany, first_of_rows, more, length, what="rows", limit=5000)
        self.assertEqual(len(list(rows(more, 9))), 2501)
        check_error(self, TooMany, first_of_rows, Medium.free(2), 13, what="rows", limit=5000)
        check_error(self, TooMany, first_of_rows, Medium.free(4), 400, what="rows", limit=5000)
        self.assertEqual(len(list(rows(Medium.free(2), 12))), 4096)


def with_5000_rows(further={}):
    """A medium that allows 5,000 rows of ten signs, and of each greater number, and one for each further sign."""
    table = []
    for block in range(4):
        at = 3 * block
        # These two signs have five rows.
        table += [{"a": at + 1, "b": at + 2}, {sign: at + 3 for sign in "abcd"}, {"a": at + 3}]
    table += [{sign: 13 for sign in "abcd"}, {"a": 14, "b": 14}, {"a": 14}]
    table[0].update(further)
    return Medium(4, table)


class WrongCounts(unittest.TestCase):
    def test_no_media(self):
        for value in (*OTHERS, BB.table()):
            check_error(self, InvalidMedium, count, value, None, None, value=value)
            check_error(self, InvalidMedium, row_at, value, None, None, None, value=value)
            check_error(self, InvalidMedium, number_of, value, None, None, value=value)
            check_error(self, InvalidMedium, first_of_rows, value, None, None, value=value)

    def test_no_lengths(self):
        for value in NO_COUNTS:
            check_error(self, InvalidCount, count, BB, value, 2, value=value)
            check_error(self, InvalidCount, row_at, BB, value, -1, 2, value=value)
            check_error(self, InvalidCount, first_of_rows, BB, value, 2, value=value)

    def test_no_states(self):
        for value in NO_STATES:
            check_error(self, InvalidState, count, BB, 400, value, value=value)
            check_error(self, InvalidState, row_at, BB, 3, -1, value, value=value)
            check_error(self, InvalidState, number_of, BB, "bb", value, value=value)
            check_error(self, InvalidState, number_of, BB, "a" * 401, value, value=value)
            check_error(self, InvalidState, first_of_rows, BB, 400, value, value=value)

    def test_no_numbers(self):
        for value in (*NO_INTEGERS, -1, 5, 10 ** 30):
            check_error(self, InvalidNumber, row_at, BB, 3, value, value=value)
        check_error(self, InvalidNumber, row_at, BB, 3, 3, 1, value=3)
        check_error(self, InvalidNumber, row_at, BB, 0, 1, value=1)
        check_error(self, InvalidNumber, row_at, Medium.free(4), 400, 4 ** 400, value=4 ** 400)

    def test_no_rows(self):
        for value in (*NO_ROWS, "a" * 2001, "bb" * 1001):
            check_error(self, InvalidRow, number_of, BB, value, 2, value=value)
        for value in ("bb", "abba", "c", "a" * 401, "a" * 2000, "bb" * 1000):
            check_error(self, InvalidRow, number_of, BB, value, value=value)
            check_error(self, InvalidState, number_of, BB, value, 2, value=2)
        check_error(self, InvalidRow, number_of, BB, "ba", 1, value="ba")
        self.assertEqual(number_of(BB, "a" * 400), 0)
