import unittest
from random import Random

from barredrows.errors import InvalidRow, InvalidState
from barredrows.media import Medium
from tests.helpers import (
    NO_INTEGERS,
    NO_ROWS,
    OTHERS,
    all_rows_to,
    allowed_by,
    check_error,
    doubled,
    plain_allowed,
    random_table,
    renumbered,
)

NUMBERED = [{"a": 1, "b": 2}, {"a": 3, "c": 0}, {"a": 4, "b": 3}, {"b": 0}, {"d": 0}]
OTHERWISE = [{"a": 1, "b": 3}, {"a": 2, "c": 0}, {"b": 0}, {"a": 4, "b": 2}, {"d": 0}]


def random_media(seed, number):
    """Tables that have a medium, each with its medium."""
    random = Random(seed)
    found = []
    while len(found) < number:
        many = random.randrange(2, 5)
        table = random_table(random, "abcd"[:many], random.randrange(1, 9), random.randrange(30, 90))
        if plain_allowed(table, ""):
            found.append((table, Medium(many, table)))
    return found


class Tables(unittest.TestCase):
    def test_table_is_kept(self):
        self.assertEqual(Medium(4, NUMBERED).table(), NUMBERED)
        self.assertEqual(Medium(4, tuple(NUMBERED)).table(), NUMBERED)
        self.assertEqual(Medium(table=NUMBERED, many=4), Medium(4, NUMBERED))
        self.assertEqual(Medium(4, OTHERWISE).table(), NUMBERED)

    def test_allowed_rows(self):
        for table, medium in random_media(1, 150):
            for row in all_rows_to(medium.signs, 9 - 2 * medium.many + 3):
                self.assertIs(row in medium, plain_allowed(table, row), (table, row))

    def test_states_are_unlike_and_in_order(self):
        for _, medium in random_media(2, 150):
            least = {}
            walks = []
            for row in allowed_by(medium, 8 if medium.many == 2 else 6 if medium.many == 3 else 5):
                least.setdefault(medium.after(row), row)
            self.assertEqual(list(least), list(range(len(medium))))
            self.assertEqual(list(least.values()), [medium.least_row(state) for state in range(len(medium))])
            for state in range(len(medium)):
                rows = [row for row in all_rows_to(medium.signs, 5) if medium.after(row, state) is not None]
                self.assertNotIn(rows, walks)
                walks.append(rows)

    def test_other_tables_of_a_medium(self):
        random = Random(3)
        for table, medium in random_media(4, 100):
            order = [0, *random.sample(range(1, len(table)), len(table) - 1)]
            size = len(table)
            others = [
                renumbered(table, order),
                doubled(table, random),
                [*table, {"a": 0, "b": size}, {}],
                [{**{sign: size for sign in medium.signs}, **ways} for ways in table] + [{}],
                [{**{sign: size for sign in medium.signs}, **ways} for ways in table]
                + [{"b": size + 1}, {"a": size + 2, "b": size + 2}, {}],
                medium.table(),
                tuple(medium.table()),
            ]
            for other in others:
                made = Medium(medium.many, other)
                self.assertTrue(made == medium)
                self.assertEqual(made.table(), medium.table())
                self.assertEqual(repr(made), repr(medium))

    def test_dead_states_alone_are_left_out(self):
        table = [{"a": 1, "b": 2}, {"a": 3}, {"b": 2}, {"a": 4, "b": 4}, {}]
        self.assertEqual(Medium(2, table).table(), [{"b": 0}])

    def test_only_states_that_are_left_are_counted(self):
        ring = [{"a": (state + 1) % 16, "b": 0} if state % 16 == 15 else {"a": state + 1} for state in range(16)]
        self.assertEqual(len(Medium(2, ring)), 16)
        table = [{sign: to + 16 * at for sign, to in ways.items()} for at in range(4) for ways in ring]
        self.assertEqual(Medium(2, table), Medium(2, ring))
        self.assertEqual(len(table), 64)
        line = [{"a": state + 1} for state in range(63)] + [{}]
        line[0]["b"] = 0
        self.assertEqual(Medium(2, line).table(), [{"b": 0}])
        self.assertEqual(len(Medium(2, [{"a": 0, "b": 0} for _ in range(64)])), 1)


class Told(unittest.TestCase):
    def setUp(self):
        self.medium = Medium.barring(2, "bb")

    def test_class_values(self):
        self.assertEqual((Medium.MOST_STATES, Medium.LETTERS), (16, "abcd"))

    def test_properties(self):
        for many in (2, 3, 4):
            self.assertEqual((Medium.free(many).many, Medium.free(many).signs), (many, "abcd"[:many]))

    def test_len_and_repr(self):
        self.assertEqual(len(self.medium), 2)
        self.assertEqual(repr(self.medium), "Medium(2, [{'a': 0, 'b': 1}, {'a': 0}])")
        self.assertEqual(repr(Medium(3, [{"c": 0, "a": 0}])), "Medium(3, [{'a': 0, 'c': 0}])")

    def test_tables_are_new(self):
        first, second = self.medium.table(), self.medium.table()
        self.assertIsNot(first, second)
        self.assertIsNot(first[0], second[0])
        self.assertIsNot(first[0], first[1])
        first[0]["b"] = 7
        first.pop()
        self.assertEqual(self.medium.table(), [{"a": 0, "b": 1}, {"a": 0}])

    def test_tables_are_copied(self):
        table = [{"b": 1, "a": 0}, {"a": 0}]
        medium = Medium(2, table)
        self.assertEqual(table, [{"b": 1, "a": 0}, {"a": 0}])
        self.assertEqual(list(table[0]), ["b", "a"])
        table[1]["b"] = 1
        table.append({})
        self.assertEqual(medium, self.medium)

    def test_keys_are_sorted(self):
        table = Medium(4, [{"d": 0, "b": 1, "c": 0, "a": 1}, {"c": 0, "a": 1}]).table()
        self.assertEqual([list(ways) for ways in table], [["a", "b", "c", "d"], ["a", "c"]])

    def test_in(self):
        for row, allowed in (("", True), ("aba", True), ("bb", False), ("abba", False), ("abc", False)):
            self.assertIs(row in self.medium, allowed)
        self.assertIs("ab" * 1001 in self.medium, True)
        for value in NO_ROWS:
            self.assertIs(value in self.medium, False)

    def test_after(self):
        self.assertEqual([self.medium.after(row) for row in ("", "a", "ab", "abb", "c")], [0, 0, 1, None, None])
        self.assertEqual([self.medium.after(row, 1) for row in ("", "a", "b", "ab")], [1, 0, None, 1])
        self.assertEqual(self.medium.after(state=1, row="a"), 0)
        self.assertEqual(self.medium.after("ab" * 1000), 1)
        barred = Medium(2, [{"a": 1, "b": 0}, {"a": 2}, {}])
        self.assertIs(barred.after("a"), None)

    def test_after_errors(self):
        for row in (*NO_ROWS, "a" * 2001):
            check_error(self, InvalidRow, self.medium.after, row, value=row)
            check_error(self, InvalidRow, self.medium.after, row, 5, value=row)
        for state in (*NO_INTEGERS, -1, 2, 64):
            check_error(self, InvalidState, self.medium.after, "bb", state, value=state)

    def test_least_row(self):
        self.assertEqual([self.medium.least_row(0), self.medium.least_row(state=1)], ["", "b"])
        medium = Medium(2, [{"a": 1, "b": 2}, {"b": 3}, {"a": 3}, {"a": 0, "b": 0}])
        self.assertEqual([medium.least_row(state) for state in range(4)], ["", "a", "b", "ab"])
        for state in (*NO_INTEGERS, -1, 2):
            check_error(self, InvalidState, self.medium.least_row, state, value=state)

    def test_equal(self):
        self.assertTrue(self.medium == Medium(2, [{"a": 2, "b": 1}, {"a": 0}, {"a": 0, "b": 1}]))
        self.assertFalse(self.medium != Medium.barring(2, "bb", "bb"))
        self.assertFalse(self.medium == Medium.barring(3, "bb"))
        self.assertFalse(self.medium == Medium.barring(2, "aa"))
        self.assertTrue(Medium(2, [{"a": 0}]) != Medium(3, [{"a": 0}]))
        for value in (*OTHERS, self.medium.table(), repr(self.medium)):
            self.assertIs(self.medium == value, False)

    def test_arguments_are_not_changed(self):
        table = [{"b": 1, "a": 0}, {"a": 0, "b": 2}, {}]
        Medium(2, table)
        self.assertEqual(repr(table), "[{'b': 1, 'a': 0}, {'a': 0, 'b': 2}, {}]")
