import unittest

from barredrows.basics import is_ahead, is_count, is_integer, is_row
from barredrows.errors import InvalidRow
from tests.helpers import NO_INTEGERS, NO_ROWS, all_rows_to, check_error


class Basics(unittest.TestCase):
    def test_integers(self):
        for value in (0, 1, -1, 63, -10 ** 39, 10 ** 39):
            self.assertIs(is_integer(value), True)
            self.assertIs(is_count(value), value >= 0)
        for value in NO_INTEGERS:
            self.assertIs(is_integer(value), False)
            self.assertIs(is_count(value), False)

    def test_rows(self):
        for value in ("", "a", "d", "abcd", "dcba", "a" * 2000, "b" * 2001, "abcd" * 1250):
            self.assertIs(is_row(value), True)
        for value in (*NO_ROWS, "ab" * 2000 + "e"):
            self.assertIs(is_row(value), False)

    def test_order(self):
        rows = all_rows_to("abcd", 3)
        for at, one in enumerate(rows):
            for beside, other in enumerate(rows):
                self.assertIs(is_ahead(one, other), at < beside)
        self.assertIs(is_ahead("d" * 2000, "a" * 2001), True)
        self.assertIs(is_ahead("a" * 2001, "d" * 2000), False)

    def test_order_of_no_rows(self):
        for value in NO_ROWS:
            check_error(self, InvalidRow, is_ahead, value, "a", value=value)
            check_error(self, InvalidRow, is_ahead, "a", value, value=value)
            check_error(self, InvalidRow, is_ahead, value, "x", value=value)

    def test_names(self):
        self.assertIs(is_integer(value=3), True)
        self.assertIs(is_count(value=3), True)
        self.assertIs(is_row(value="abc"), True)
        self.assertIs(is_ahead(other="b", one="a"), True)
