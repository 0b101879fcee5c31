import unittest

from barredrows.errors import InvalidMedium
from barredrows.media import Medium
from barredrows.memory import endless_rows, is_endless, memory
from tests.helpers import OTHERS, all_rows_to, check_error, plain_walk
from tests.test_media import random_media

BB = Medium.barring(2, "bb")
SUMS = Medium.sums(1, -1, low=-1, high=1)


def plain_memory(medium, most, longest):
    """The memory by comparing all rows up to a length, None if it is greater than most."""
    table = medium.table()
    ends = [(row, plain_walk(table, row)) for row in all_rows_to(medium.signs, longest)]
    ends = [(row, end) for row, end in ends if end is not None]
    for length in range(most + 1):
        led = {}
        for row, end in ends:
            if len(row) >= length:
                led.setdefault(row[len(row) - length:], set()).add(end)
        if all(len(states) == 1 for states in led.values()):
            return length
    return None


def is_plainly_endless(medium, one, other, ring):
    table = medium.table()
    first, second = plain_walk(table, one), plain_walk(table, other)
    if first is None or second is None or first == second or not ring:
        return False
    return plain_walk(table, ring, first) == first and plain_walk(table, ring, second) == second


class Memory(unittest.TestCase):
    def test_against_a_plain_listing(self):
        told = []
        for _, medium in random_media(31, 250):
            if len(medium) <= 4 and medium.many == 2:
                plain = plain_memory(medium, 7, 10)
                told.append(plain)
                self.assertEqual(memory(medium), plain)
                self.check_rows(medium)
        self.assertGreater(len([plain for plain in told if plain is None]), 5)
        self.assertGreater(len({plain for plain in told if plain is not None}), 2)

    def test_either_a_memory_or_endless_rows(self):
        for _, medium in random_media(32, 150):
            self.check_rows(medium)

    def check_rows(self, medium):
        rows = endless_rows(medium)
        self.assertEqual(rows is None, memory(medium) is not None)
        if rows is not None:
            self.assertEqual([type(rows), *map(type, rows)], [tuple, str, str, str])
            self.assertTrue(is_plainly_endless(medium, *rows))
            self.assertIs(is_endless(medium, rows), True)

    def test_some(self):
        self.assertEqual([memory(BB), memory(SUMS), memory(Medium.free(3))], [1, None, 0])
        self.assertEqual([endless_rows(BB), endless_rows(Medium.free(4))], [None, None])
        self.assertEqual(memory(Medium.barring(2, "abababab")), 7)
        self.assertEqual(memory(Medium.barring(2, "aab", "bb")), 2)
        self.assertEqual(memory(Medium.runs(2, a=14, b=1)), 14)
        self.assertEqual(memory(Medium.runs(4, a=3, b=3, c=3)), 3)
        self.assertEqual([memory(medium=BB), endless_rows(medium=BB)], [1, None])

    def test_limits_and_barred_words_have_a_memory(self):
        for limits in ({"a": 1}, {"b": 4}, {"a": 2, "b": 3}, {"a": 7, "b": 8}):
            medium = Medium.runs(2, **limits)
            self.assertEqual(memory(medium), max(limits.values()))
            self.assertIsNone(endless_rows(medium))
        for words in (("ab",), ("aba", "bb"), ("abab", "baab"), ("aaaa", "bbb", "abba")):
            medium = Medium.barring(2, *words)
            self.assertEqual(memory(medium), plain_memory(medium, 8, 11))
            self.assertLess(memory(medium), max(map(len, words)))

    def test_sums_have_none(self):
        for low, high in ((-1, 0), (0, 2), (-3, 3), (-8, 7)):
            medium = Medium.sums(1, -1, low=low, high=high)
            # With two sums each row is told by its last sign.
            self.assertEqual(memory(medium), 1 if high - low == 1 else None)
            self.check_rows(medium)
            if high - low > 1:
                self.assertTrue(is_endless(medium, ("", "a" if high else "b", "ba" if high else "ab")) or high == 0
                                or low == 0)

    def test_swapping_rows_are_not_endless_but_twice(self):
        # From each of the states 0 and 1 an a leads to the other one.
        medium = Medium(2, [{"a": 1}, {"a": 0, "b": 0}])
        self.assertIsNone(memory(medium))
        self.assertIs(is_endless(medium, ("", "a", "a")), False)
        self.assertIs(is_endless(medium, ("", "a", "aa")), True)
        self.check_rows(medium)

    def test_is_endless(self):
        yes = [("", "a", "ba"), ("", "a", "baba"), ("", "b", "ab"), ("ab", "aba", "ba" * 700),
               ("ab" * 2000, "ba" * 2000 + "a", "ba" * 2500)]
        no = [("", "a", "ab"), ("", "", "ba"), ("", "ab", "ab"), ("a", "a", "ba"), ("", "a", ""), ("", "a", "b"),
              ("", "aa", "ba"), ("aa", "", "ba"), ("", "c", "ba"), ("", "a", "cc"), ("a", "b", "ab"),
              ["", "a", "ba"], ("", "a"), ("", "a", "ba", ""), ("", "a", ["b", "a"]), ("", "a", None),
              (None, "a", "ba"), ("", 1, "ba"), ("", True, "ba"), (b"", "a", "ba"), "aba", (("", "a", "ba"),),
              ((), "a", "ba"), ("", "a", "b a"), ("", "A", "ba"), ()]
        for value in yes:
            self.assertIs(is_endless(SUMS, value), True, value)
            self.assertIs(is_endless(medium=SUMS, value=value), True)
        for value in [*no, *OTHERS]:
            self.assertIs(is_endless(SUMS, value), False, value)
        for value in yes:
            self.assertIs(is_endless(BB, value), False)

    def test_no_media(self):
        for value in (*OTHERS, BB.table()):
            check_error(self, InvalidMedium, memory, value, value=value)
            check_error(self, InvalidMedium, endless_rows, value, value=value)
            check_error(self, InvalidMedium, is_endless, value, None, value=value)
