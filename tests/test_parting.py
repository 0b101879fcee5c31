import unittest

from barredrows.errors import InvalidMedium, OtherSigns
from barredrows.media import Medium
from barredrows.parting import parting
from tests.helpers import OTHERS, all_rows_to, check_error
from tests.test_media import random_media

BB = Medium.barring(2, "bb")


class Parting(unittest.TestCase):
    def test_against_all_rows(self):
        media = [medium for _, medium in random_media(13, 60)]
        for one in media:
            for other in media:
                if one.many == other.many:
                    self.check_pair(one, other)

    def check_pair(self, one, other):
        row = parting(one, other)
        self.assertEqual(row is None, one == other)
        self.assertEqual(parting(other, one), row)
        if row is not None:
            self.assertNotEqual(row in one, row in other)
            for less in all_rows_to(one.signs, min(len(row), 5)):
                if less == row:
                    break
                self.assertEqual(less in one, less in other)

    def test_some(self):
        self.assertEqual(parting(BB, Medium.sums(1, -1, low=-1, high=1)), "aa")
        self.assertEqual(parting(other=BB, one=Medium.free(2)), "bb")
        self.assertEqual(parting(Medium(2, [{"a": 0}]), Medium(2, [{"b": 0}])), "a")
        self.assertEqual(parting(Medium.runs(2, a=15), Medium.runs(2, a=14)), "a" * 15)
        self.assertIsNone(parting(BB, Medium(2, [{"a": 2, "b": 1}, {"a": 0}, {"a": 0, "b": 1}])))

    def test_long(self):
        one = Medium(2, [{"a": (state + 1) % 16, **({"b": 0} if state == 15 else {})} for state in range(16)])
        other = Medium(2, [{"a": (state + 1) % 15, **({"b": 0} if state == 14 else {})} for state in range(15)])
        self.assertEqual(parting(one, other), "a" * 14 + "b")
        last = Medium(2, [*[{"a": at + 1} for at in range(15)], {"a": 0, "b": 0}])
        self.assertEqual(parting(Medium(2, [{"a": 0}]), last), "a" * 15 + "b")
        # Both have a b behind every third a, until one of them has none.
        one = Medium(2, [{"a": 1}, {"a": 2}, {"a": 0, "b": 0}])
        states = [{"a": at + 1, **({"b": at + 1} if at % 3 == 2 else {})} for at in range(15)]
        self.assertEqual(parting(one, Medium(2, [*states, {"a": 15}])), "a" * 17 + "b")

    def test_errors(self):
        for value in (*OTHERS, BB.table()):
            check_error(self, InvalidMedium, parting, value, None, value=value)
            check_error(self, InvalidMedium, parting, BB, value, value=value)
        check_error(self, OtherSigns, parting, BB, Medium.free(3), one=2, other=3)
        check_error(self, OtherSigns, parting, Medium.free(4), BB, one=4, other=2)
