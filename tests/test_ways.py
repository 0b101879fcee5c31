import unittest
from random import Random

from barredrows.errors import InvalidCount, InvalidMedium, InvalidState
from barredrows.media import Medium
from barredrows.ways import parts, ways, ways_from
from tests.helpers import NO_INTEGERS, OTHERS, all_rows, check_error
from tests.test_media import random_media

BB = Medium.barring(2, "bb")
SUMS = Medium.sums(1, -1, low=-1, high=1)


def plain_ways(medium, length, state):
    """All ways with their ends, by trying all rows."""
    ends = [(row, medium.after(row, state)) for row in all_rows(medium.signs, length)]
    return [(row, end) for row, end in ends if end is not None]


def plain_parts(medium, length):
    """The parts by going on from each state until nothing is new."""
    single = [{end for _, end in plain_ways(medium, length, state)} for state in range(len(medium))]
    reached = []
    for ends in single:
        ends = set(ends)
        while not all(single[end] <= ends for end in ends):
            ends = ends.union(*[single[end] for end in ends])
        reached.append(ends)
    found = {
        tuple(other for other in range(len(medium)) if other in reached[state] and state in reached[other])
        for state in range(len(medium))
    }
    return sorted(list(part) for part in found if part)


class Ways(unittest.TestCase):
    def test_against_a_plain_listing(self):
        for _, medium in random_media(11, 40):
            states = range(len(medium))
            for length in range(5):
                plain = [plain_ways(medium, length, state) for state in states]
                ends = [[end for _, end in found] for found in plain]
                self.assertEqual(ways(medium, length), [[ends[one].count(other) for other in states]
                                                        for one in states])
                if length:
                    self.assertEqual([ways_from(medium, length, state) for state in states], plain)

    def test_some(self):
        self.assertEqual(ways(BB, 3), [[3, 2], [2, 1]])
        self.assertEqual(ways_from(BB, 2, 1), [("aa", 0), ("ab", 1)])
        self.assertEqual(ways(length=0, medium=SUMS), [[1, 0, 0], [0, 1, 0], [0, 0, 1]])
        self.assertEqual(ways_from(state=1, length=1, medium=BB), [("a", 0)])

    def test_edges(self):
        self.assertEqual(ways(Medium.free(4), 400), [[4 ** 400]])
        self.assertEqual(len(ways_from(Medium.free(4), 6, 0)), 4096)
        self.assertEqual(ways_from(Medium.free(4), 6, 0)[-1], ("d" * 6, 0))
        one = ways(BB, 200)
        product = [[sum(one[s][m] * one[m][t] for m in (0, 1)) for t in (0, 1)] for s in (0, 1)]
        self.assertEqual(ways(BB, 400), product)

    def test_greater_lengths(self):
        """Ways of so many signs are ways of one sign less, and one more."""
        random = Random(13)
        for _, medium in random_media(14, 12):
            states = range(len(medium))
            table = medium.table()
            for length in (1, 29, 30, 31, 32, 33, 60, 61, 62, 63, 64, 123, 255, 256, random.randrange(65, 400), 400):
                rows = ways(medium, length - 1)
                wanted = [[sum(rows[to][end] for to in table[state].values()) for end in states] for state in states]
                self.assertEqual(ways(medium, length), wanted)

    def test_lists_are_new(self):
        first, second = ways(SUMS, 0), ways(SUMS, 0)
        self.assertEqual(len({id(found) for found in [first, second, *first, *second]}), 8)
        ways_from(BB, 1, 0).pop()
        self.assertEqual(len(ways_from(BB, 1, 0)), 2)
        parts(BB)[0].pop()
        self.assertEqual(parts(BB), [[0, 1]])

    def test_elements_are_lists_and_tuples(self):
        self.assertEqual([type(found) for found in ways(BB, 1)], [list, list])
        self.assertEqual([type(found) for found in ways_from(BB, 1, 0)], [tuple, tuple])
        self.assertEqual([type(found) for found in parts(SUMS, 2)], [list, list])


class Parts(unittest.TestCase):
    def test_against_plain_reach(self):
        for _, medium in random_media(12, 80):
            for length in (1, 2, 3, 4):
                self.assertEqual(parts(medium, length), plain_parts(medium, length))
            self.assertEqual(parts(medium), parts(medium, 1))

    def test_some(self):
        self.assertEqual([parts(SUMS), parts(SUMS, 2), parts(length=3, medium=SUMS)],
                         [[[0, 1, 2]], [[0], [1, 2]], [[0, 1, 2]]])
        self.assertEqual([parts(SUMS, 399), parts(SUMS, 400)], [[[0, 1, 2]], [[0], [1, 2]]])

    def test_greater_lengths(self):
        for _, medium in random_media(15, 25):
            for length in (5, 6, 7, 12, 31, 32, 60, 255, 400):
                grid = ways(medium, length)
                reached = [{end for end, many in enumerate(row) if many} for row in grid]
                while True:
                    further = [ends.union(*[reached[end] for end in ends]) for ends in reached]
                    if further == reached:
                        break
                    reached = further
                found = {tuple(end for end in ends if state in reached[end]) for state, ends in enumerate(reached)}
                self.assertEqual(parts(medium, length), sorted(list(part) for part in found if part))

    def test_states_in_no_part(self):
        medium = Medium(2, [{"a": 1}, {"a": 2, "b": 3}, {"b": 3}, {"a": 3}])
        self.assertEqual(len(medium), 4)
        self.assertEqual(parts(medium), [[3]])
        ring = Medium(2, [{"a": 1}, {"a": 2}, {"a": 3}, {"a": 0, "b": 4}, {"a": 5}, {"b": 4}])
        self.assertEqual(parts(ring), [[0, 1, 2, 3], [4, 5]])
        self.assertEqual(parts(ring, 2), [[0, 2], [1, 3], [4], [5]])
        self.assertEqual(parts(ring, 4), [[0], [1], [2], [3], [4], [5]])
        self.assertEqual(parts(ring, 3), [[0, 1, 2, 3], [4, 5]])


class WrongWays(unittest.TestCase):
    def test_no_media(self):
        for value in (*OTHERS, BB.table()):
            check_error(self, InvalidMedium, ways, value, None, value=value)
            check_error(self, InvalidMedium, ways_from, value, None, None, value=value)
            check_error(self, InvalidMedium, parts, value, None, value=value)

    def test_no_lengths(self):
        for value in (*NO_INTEGERS, -1, 401, 10 ** 30):
            check_error(self, InvalidCount, ways, BB, value, value=value)
            check_error(self, InvalidCount, parts, BB, value, value=value)
            check_error(self, InvalidCount, ways_from, BB, value, 2, value=value)
        for value in (0, 7, 400):
            check_error(self, InvalidCount, ways_from, BB, value, 2, value=value)
        check_error(self, InvalidCount, parts, BB, 0, value=0)

    def test_no_states(self):
        for value in (*NO_INTEGERS, -1, 2, 64):
            check_error(self, InvalidState, ways_from, BB, 6, value, value=value)
