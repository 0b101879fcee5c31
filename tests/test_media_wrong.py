import unittest

from barredrows.errors import (
    InvalidBounds,
    InvalidLimits,
    InvalidMedium,
    InvalidRow,
    InvalidSigns,
    InvalidSteps,
    InvalidTable,
    InvalidWords,
    NothingLeft,
    OtherSigns,
    TooMany,
)
from barredrows.media import Medium
from tests.helpers import NO_INTEGERS, NO_ROWS, OTHERS, Thing, check_error

NO_SIGNS = (*NO_INTEGERS, -2, 0, 1, 5, 10 ** 30)


def ring(size):
    """A table with so many states, no two of them like."""
    return [{"a": (state + 1) % size, "b": 0} if state == size - 1 else {"a": state + 1} for state in range(size)]


class WrongTables(unittest.TestCase):
    def test_signs(self):
        for many in NO_SIGNS:
            for call in (
                lambda: Medium(many, [{"a": 0}]),
                lambda: Medium(many, None),
                lambda: Medium(many, [{}]),
                lambda: Medium.free(many),
                lambda: Medium.barring(many, "aa"),
                lambda: Medium.barring(many),
                lambda: Medium.runs(many, a=1),
                lambda: Medium.runs(many, e=0),
            ):
                check_error(self, InvalidSigns, call, value=many)

    def test_no_tables(self):
        for table in (None, True, 0, 5, "a", "", {}, {"a": 0}, set(), object(), [], (), [{"a": 0}] * 65):
            check_error(self, InvalidTable, Medium, 2, table, position=None)

    def test_sizes(self):
        self.assertEqual(len(Medium(2, [{"a": 0}] * 64)), 1)
        self.assertEqual(len(Medium(2, ({"a": 63}, *[{"a": 0}] * 63))), 1)
        check_error(self, InvalidTable, Medium, 2, [{"a": 64}, *[{"a": 0}] * 63], position=0)

    def test_wrong_elements(self):
        for element in (
            None, True, 0, "a", [], ["a", 0], (("a", 0),), set(), Thing(),
            {"c": 0}, {"": 0}, {"ab": 0}, {"A": 0}, {0: 0}, {None: 0}, {True: 0}, {("a",): 0}, {b"a": 0},
            {"a": 2}, {"a": -1}, {"a": True}, {"a": False}, {"a": None}, {"a": "0"}, {"a": [0]}, {"a": {}},
            {"a": 0, "b": 2}, {"a": 0, "c": 0}, {"a": 10 ** 30},
        ):
            check_error(self, InvalidTable, Medium, 2, [element, {"a": 0}], position=0)
            check_error(self, InvalidTable, Medium, 2, ({"a": 0}, element), position=1)
            check_error(self, InvalidTable, Medium, 2, [element, None], position=0)
        check_error(self, InvalidTable, Medium, 3, [{"a": 0}, {"d": 1}, 5], position=1)

    def test_nothing_left(self):
        for table in ([{}], [{}, {"a": 1}], [{"a": 1, "b": 1}, {"a": 2}, {}], [{"a": 1}, {}, {"a": 0, "b": 2}]):
            check_error(self, NothingLeft, Medium, 2, table)

    def test_wrong_ahead_of_nothing_left(self):
        check_error(self, InvalidTable, Medium, 2, [{}, {"a": 2}], position=1)

    def test_states(self):
        self.assertEqual(len(Medium(2, ring(16))), 16)
        check_error(self, TooMany, Medium, 2, ring(17), what="states", limit=16)
        check_error(self, TooMany, Medium, 2, ring(64), what="states", limit=16)
        # States of which no row leads to one, or that are dead, are not counted.
        self.assertEqual(len(Medium(2, [{"a": 0}, *[{"a": at, "b": at + 1} for at in range(20)]])), 1)


class WrongMakers(unittest.TestCase):
    def test_barring(self):
        check_error(self, InvalidWords, lambda: Medium.barring(2), position=None)
        check_error(self, InvalidWords, lambda: Medium.barring(2, *["aa"] * 9), position=None)
        check_error(self, InvalidWords, lambda: Medium.barring(2, *[None] * 9), position=None)
        for word in (*NO_ROWS, "", "c", "aac", "a" * 9, ["a", "b"]):
            check_error(self, InvalidWords, lambda: Medium.barring(2, word), position=0)
            check_error(self, InvalidWords, lambda: Medium.barring(2, "ab", "a", word, None), position=2)
        self.assertEqual(len(Medium.barring(3, *["c"] * 8)), 1)

    def test_barring_all(self):
        for words in (("a", "b"), ("aa", "b"), ("aa", "ab", "ba", "bb"), ("aaa", "b"), ("ab", "aa", "bb", "ba", "a")):
            check_error(self, NothingLeft, lambda: Medium.barring(2, *words))

    def test_barring_too_much(self):
        words = ["aaaaaaab", "abababaa", "bbbbbbba", "babbabba"]
        check_error(self, TooMany, lambda: Medium.barring(2, *words), what="states", limit=16)

    def test_runs(self):
        check_error(self, InvalidLimits, lambda: Medium.runs(2), sign=None)
        for limit in (*NO_INTEGERS, 0, -1, 16):
            check_error(self, InvalidLimits, lambda: Medium.runs(2, b=limit, a=1), sign="b")
            check_error(self, InvalidLimits, lambda: Medium.runs(2, b=0, a=limit), sign="a")
        for sign in ("c", "e", "A", "ab", "a_", "self", "words", "table"):
            check_error(self, InvalidLimits, lambda: Medium.runs(2, b=1, **{sign: 1}), sign=sign)
        check_error(self, InvalidLimits, lambda: Medium.runs(2, ab=1, c=1, b=0), sign="ab")
        check_error(self, InvalidLimits, lambda: Medium.runs(2, **{"": 1}), sign="")
        self.assertEqual(Medium.runs(many=2, a=1), Medium.barring(2, "aa"))

    def test_runs_too_many(self):
        self.assertEqual(len(Medium.runs(2, a=15)), 16)
        self.assertEqual(len(Medium.runs(2, a=8, b=7)), 16)
        check_error(self, TooMany, lambda: Medium.runs(2, a=8, b=8), what="states", limit=16)
        check_error(self, TooMany, lambda: Medium.runs(4, a=15, b=15, c=15, d=15), what="states", limit=16)

    def test_steps(self):
        for steps in ((), (1,), (None,), (1, 2, 3, 4, 5), (None,) * 5):
            check_error(self, InvalidSteps, lambda: Medium.sums(*steps, low=1, high=0), position=None)
        for step in (*NO_INTEGERS, -10, 10):
            check_error(self, InvalidSteps, lambda: Medium.sums(step, None, low=1, high=0), position=0)
            check_error(self, InvalidSteps, lambda: Medium.sums(9, -9, step, low=-9, high=0), position=2)

    def test_bounds(self):
        for low, high in (
            (1, 1), (0, -1), (1, -1), (-8, 8), (-16, 0), (0, 16), (-1, 15), (None, 0), (0, None), (True, 1),
            (0, True), (False, 0), ("0", 0), ([], {}), (-10 ** 30, 0),
        ):
            check_error(self, InvalidBounds, lambda: Medium.sums(1, -1, low=low, high=high), low=low, high=high)

    def test_sums_with_nothing_left(self):
        check_error(self, NothingLeft, lambda: Medium.sums(1, 2, low=-3, high=3))
        check_error(self, NothingLeft, lambda: Medium.sums(9, -9, low=-7, high=8))

    def test_parameters_by_name(self):
        with self.assertRaises(TypeError):
            Medium.sums(1, -1, -1, 1)


class WrongPairs(unittest.TestCase):
    def setUp(self):
        self.medium = Medium.barring(2, "bb")

    def test_meet(self):
        for value in (*OTHERS, self.medium.table()):
            check_error(self, InvalidMedium, lambda: self.medium & value, value=value)
        check_error(self, OtherSigns, lambda: self.medium & Medium.free(3), one=2, other=3)
        check_error(self, OtherSigns, lambda: Medium.free(4) & self.medium, one=4, other=2)
        check_error(self, NothingLeft, lambda: Medium(2, [{"a": 0}]) & Medium(2, [{"b": 0}]))
        check_error(self, NothingLeft, lambda: self.medium & Medium.barring(2, "a"))

    def test_meet_too_many(self):
        one, other = Medium(2, [{"a": 1}, {"a": 2}, {"a": 3}, {"a": 4}, {"a": 0, "b": 0}]), Medium.runs(2, b=3)
        self.assertEqual(len(one & other), 5)
        one = Medium(2, [{"a": 1, "b": 1}, {"a": 2, "b": 2}, {"a": 3, "b": 3}, {"a": 4, "b": 4}, {"a": 0}])
        check_error(self, TooMany, lambda: one & Medium.runs(2, a=4), what="states", limit=16)
        check_error(self, TooMany, lambda: Medium.runs(2, a=12) & Medium.runs(2, b=12), what="states", limit=16)
        self.assertEqual(one.table()[4], {"a": 0})

    def test_follow(self):
        for value in (*NO_ROWS, self.medium, "bb", "abba", "c", "ab" * 1000 + "a", "ab" * 1001):
            check_error(self, InvalidRow, lambda: self.medium >> value, value=value)
        self.assertEqual(self.medium >> "ab" * 1000, self.medium >> "b")
        self.assertEqual(self.medium >> "a" * 2000, self.medium)

    def test_is_within(self):
        for value in (*OTHERS, self.medium.table()):
            check_error(self, InvalidMedium, self.medium.is_within, value, value=value)
        check_error(self, OtherSigns, self.medium.is_within, Medium.free(3), one=2, other=3)
