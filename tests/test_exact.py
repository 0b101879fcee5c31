import unittest
from random import Random

from barredrows.errors import InvalidCount, InvalidMedium, InvalidRate, NothingLeft, TooMany
from barredrows.exact import has_weights, paper, too_few
from barredrows.media import Medium
from barredrows.papers import Loads, Rate, Weights
from tests.helpers import NO_INTEGERS, OTHERS, check_error, plain_sums
from tests.test_media import random_media
from tests.test_papers import NO_RATES, RATES

BB = Medium.barring(2, "bb")
SUMS = Medium.sums(1, -1, low=-1, high=1)


def big_medium(random, many, least):
    """A medium with at least so many states, some signs leading nowhere."""
    signs = "abcd"[:many]
    while True:
        table = [{sign: random.randrange(16) for sign in signs if random.randrange(100) < 75} for _ in range(16)]
        try:
            medium = Medium(many, table)
        except NothingLeft:
            continue
        if len(medium) >= least:
            return medium


def big_media(seed, number):
    random = Random(seed)
    return [big_medium(random, random.randrange(2, 5), 12) for _ in range(number)]


def edge_media():
    ring = [{"a": (state + 1) % 16} for state in range(15)] + [{"a": 0, "b": 0}]
    full = [{sign: (state * 4 + at) % 16 for at, sign in enumerate("abcd")} for state in range(16)]
    full[0] = {"b": 1, "c": 2, "d": 3}
    return [Medium(2, [{"b": 0}]), Medium.free(2), Medium.free(3), Medium.free(4), Medium(2, ring), Medium(4, full),
            Medium.sums(1, -1, low=-8, high=7), Medium.sums(1, -1, 2, -2, low=-15, high=0), Medium.runs(2, a=14, b=1),
            Medium.runs(4, a=4, b=4, c=4, d=3), Medium.barring(4, "aaaa", "abc", "ddd", "cbad", "bbbb")]


class Decisions(unittest.TestCase):
    def check_paper(self, medium, rate):
        """The paper is what it says by sums of the test's own; so there is none of the other class."""
        found = paper(medium, rate)
        numbers = found.numbers()
        sums = plain_sums(medium, rate.q, numbers)
        size = 2 ** rate.p
        self.assertEqual(len(numbers), len(medium))
        if found.says() == "weights":
            self.assertTrue(isinstance(found, Weights))
            self.assertGreater(max(numbers), 0)
            self.assertGreaterEqual(min(numbers), 0)
            self.assertTrue(all(total >= size * number for total, number in zip(sums, numbers)))
        else:
            self.assertTrue(isinstance(found, Loads))
            self.assertGreater(min(numbers), 0)
            self.assertTrue(all(total < size * number for total, number in zip(sums, numbers)))
        self.assertTrue(found.medium == medium)
        self.assertTrue(found.rate == rate)
        self.assertIs(has_weights(medium, rate), found.says() == "weights")
        return found.says()

    def test_small_media(self):
        random = Random(37)
        told = [self.check_paper(medium, rate) for _, medium in random_media(38, 120)
                for rate in random.sample(RATES, 6)]
        self.assertGreater(min(told.count("weights"), told.count("loads")), 100)

    def test_big_media(self):
        for medium in big_media(39, 12):
            self.assertEqual({self.check_paper(medium, rate) for rate in RATES}, {"weights", "loads"})

    def test_edge_media(self):
        for medium in edge_media():
            for rate in RATES:
                self.check_paper(medium, rate)

    def test_growth_by_exactly_the_size(self):
        for many in (2, 4):
            medium = Medium.free(many)
            for rate in RATES:
                self.assertIs(has_weights(medium, rate), 2 ** rate.p <= many ** rate.q)
        # From each state two ways lead on, so exactly p:p has weights.
        two = [{"a": (state * 5 + 1) % 16, "b": (state * 3 + 2) % 16} for state in range(16)]
        two[3] = {"a": 4, "c": 4}
        medium = Medium(3, two)
        self.assertGreater(len(medium), 4)
        for rate in RATES:
            self.assertIs(has_weights(medium, rate), rate.p <= rate.q)

    def test_growth_far_behind(self):
        # State 0 leads on to a part that grows more than what it comes from.
        medium = Medium(4, [{"a": 0, "b": 1}, {"a": 2}, {"a": 2, "b": 3}, {"a": 2, "b": 3, "c": 2, "d": 3}])
        self.assertEqual(len(medium), 4)
        self.assertEqual(paper(medium, Rate(1, 1)).says(), "weights")
        self.assertEqual(paper(medium, Rate(6, 4)).says(), "weights")
        self.assertEqual(paper(medium, Rate(2, 1)).says(), "loads")
        self.assertEqual(paper(medium, Rate(6, 3)).says(), "loads")

    def test_some(self):
        self.assertEqual([paper(BB, Rate(2, 3)).says(), paper(BB, Rate(3, 4)).says(), paper(SUMS, Rate(1, 2)).says()],
                         ["weights", "loads", "weights"])
        self.assertEqual([has_weights(rate=Rate(2, 3), medium=BB), has_weights(BB, Rate(3, 4))], [True, False])
        self.assertEqual(paper(rate=Rate(3, 4), medium=BB).says(), "loads")

    def test_wrong(self):
        for call in (paper, has_weights, too_few):
            for value in (*OTHERS, BB.table()):
                check_error(self, InvalidMedium, call, value, None, value=value)
            for value in NO_RATES:
                check_error(self, InvalidRate, call, BB, value, value=value)


class TooFew(unittest.TestCase):
    def plainly(self, medium, rate, more, most):
        """The first number of words with too few rows, by counting them, None up to most words."""
        for words in range(1, most + 1):
            if plain_sums(medium, words * rate.q + more, [1] * len(medium))[0] < 2 ** (rate.p * words):
                return words
        return None

    def test_against_counts(self):
        random = Random(40)
        told = []
        for _, medium in random_media(41, 150):
            rate = random.choice(RATES)
            more = random.choice((0, 1, 2, 7))
            if has_weights(medium, rate):
                self.assertIsNone(too_few(medium, rate, more))
            elif (found := too_few(medium, rate, more)) < 40:
                self.assertEqual(found, self.plainly(medium, rate, more, 40))
                told.append(found)
        self.assertGreater(len(set(told)), 5)

    def test_some(self):
        self.assertEqual([too_few(BB, Rate(3, 4)), too_few(BB, Rate(2, 3)), too_few(SUMS, Rate(6, 1))], [2, None, 1])
        self.assertEqual(too_few(more=0, rate=Rate(3, 4), medium=BB), 2)
        self.assertEqual(too_few(BB, Rate(3, 4), more=3), self.plainly(BB, Rate(3, 4), 3, 40))

    def test_most_more(self):
        one = Medium(2, [{"a": 0}])
        self.assertEqual([too_few(one, Rate(1, 1), more) for more in (0, 1, 100)], [1, 1, 1])
        free = Medium.free(2)
        self.assertEqual(too_few(free, Rate(2, 1), 100), 101)
        self.assertEqual(too_few(free, Rate(2, 1), 0), 1)
        self.assertIsNone(too_few(free, Rate(1, 1), 100))
        for value in (*NO_INTEGERS, -1, 101, 10 ** 30):
            check_error(self, InvalidCount, too_few, BB, Rate(3, 4), value, value=value)
            check_error(self, InvalidCount, too_few, BB, Rate(2, 3), value, value=value)
        check_error(self, InvalidRate, too_few, BB, None, -1, value=None)

    def test_most_words(self):
        found = {}
        for more in range(101):
            for medium, rate in ((Medium.free(3), Rate(2, 1)), (Medium.free(3), Rate(5, 3)), (BB, Rate(3, 4)),
                                 (Medium.free(2), Rate(4, 3)), (Medium.free(4), Rate(5, 2))):
                plain = None
                size = 2 ** rate.p
                counts = plain_counts(medium, 200 * rate.q + more)
                for words in range(1, 201):
                    if counts[words * rate.q + more] < size ** words:
                        plain = words
                        break
                if plain is None:
                    check_error(self, TooMany, too_few, medium, rate, more, what="words", limit=200)
                else:
                    self.assertEqual(too_few(medium, rate, more), plain)
                found[plain] = True
        self.assertIn(None, found)
        self.assertIn(1, found)

    def test_exactly_200_words(self):
        medium = Medium.runs(2, a=2, b=3)
        counts = plain_counts(medium, 300)
        few = [[words for words in range(1, 240) if counts[words + more] < 2 ** words][0] for more in (50, 51, 52)]
        self.assertEqual(few[1], 200)
        self.assertGreater(few[2], 200)
        self.assertEqual([too_few(medium, Rate(1, 1), more) for more in (50, 51)], few[:2])
        check_error(self, TooMany, too_few, medium, Rate(1, 1), 52, what="words", limit=200)


def plain_counts(medium, most):
    """How many rows of 0, 1 .. most signs are allowed."""
    table = medium.table()
    numbers = [1] * len(table)
    counts = [1]
    for _ in range(most):
        numbers = [sum(numbers[to] for to in ways.values()) for ways in table]
        counts.append(numbers[0])
    return counts
