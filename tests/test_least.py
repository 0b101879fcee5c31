import unittest
from itertools import product
from random import Random

from barredrows.errors import InvalidCount, InvalidMedium, InvalidNumbers, InvalidRate, NoWeights, TooMany
from barredrows.exact import has_weights
from barredrows.least import fall, fallings, greatest_weights, is_decline, least_weight, needs
from barredrows.media import Medium
from barredrows.papers import Loads, Rate, Weights
from tests.helpers import NO_INTEGERS, OTHERS, Thing, check_error, kinds, plain_sums
from tests.test_exact import big_media
from tests.test_media import random_media
from tests.test_papers import NO_RATES, RATES

BB = Medium.barring(2, "bb")
SUMS = Medium.sums(1, -1, low=-1, high=1)
TWO_THREE = Rate(2, 3)
NO_MOST = (*NO_INTEGERS, -1, 65, 10 ** 30)


def plain_fall(medium, rate, numbers):
    sums = plain_sums(medium, rate.q, numbers)
    return [min(number, total // 2 ** rate.p) for number, total in zip(numbers, sums)]


def plain_fallings(medium, rate, most):
    found = [[most] * len(medium)]
    while plain_fall(medium, rate, found[-1]) != found[-1]:
        found.append(plain_fall(medium, rate, found[-1]))
    return found


def all_weights(medium, rate, most):
    """All weights of at most so many, by trying all lists."""
    rows = plain_rows(medium, rate.q)
    return [list(numbers) for numbers in product(range(most + 1), repeat=len(medium))
            if any(numbers) and all(sum(many * number for many, number in zip(row, numbers)) >= 2 ** rate.p * own
                                    for row, own in zip(rows, numbers))]


def plain_rows(medium, length):
    """How many ways there are from each state to each."""
    states = range(len(medium))
    columns = [plain_sums(medium, length, [int(state == end) for state in states]) for end in states]
    return [list(row) for row in zip(*columns)]


def small_cases(seed, number, most_states):
    random = Random(seed)
    cases = [(medium, random.choice(RATES)) for _, medium in random_media(seed + 1, number)]
    return [(medium, rate) for medium, rate in cases if len(medium) <= most_states]


class Falls(unittest.TestCase):
    def test_fall(self):
        random = Random(42)
        for medium, rate in small_cases(43, 300, 8):
            numbers = [random.randrange(20) for _ in range(len(medium))]
            before = list(numbers)
            self.assertEqual(fall(medium, rate, numbers), plain_fall(medium, rate, numbers))
            self.assertEqual(fall(medium, rate, tuple(numbers)), plain_fall(medium, rate, numbers))
            self.assertEqual(numbers, before)

    def test_some_falls(self):
        self.assertEqual(fall(BB, TWO_THREE, [1, 1]), [1, 0])
        self.assertEqual(fall(BB, TWO_THREE, [2, 1]), [2, 1])
        self.assertEqual(fall(BB, TWO_THREE, [0, 0]), [0, 0])
        self.assertEqual(fall(numbers=[3, 3], rate=TWO_THREE, medium=BB), [3, 2])
        self.assertEqual(fall(BB, TWO_THREE, [10 ** 39, 10 ** 38]), [(3 * 10 ** 39 + 2 * 10 ** 38) // 4, 10 ** 38])
        numbers = [2, 1]
        self.assertIsNot(fall(BB, TWO_THREE, numbers), numbers)

    def test_fallings(self):
        for medium, rate in small_cases(44, 200, 8):
            for most in (0, 1, 2, 5, 64):
                self.assertEqual(fallings(medium, rate, most), plain_fallings(medium, rate, most))

    def test_some_fallings(self):
        self.assertEqual(fallings(BB, TWO_THREE, 1), [[1, 1], [1, 0], [0, 0]])
        self.assertEqual(fallings(BB, TWO_THREE, 3), [[3, 3], [3, 2]])
        self.assertEqual(fallings(most=0, rate=TWO_THREE, medium=BB), [[0, 0]])
        self.assertEqual(fallings(Medium.free(2), Rate(1, 1), 64), [[64]])
        self.assertEqual(fallings(Medium.free(2), Rate(1, 1), 0), [[0]])
        found = fallings(BB, TWO_THREE, 1)
        self.assertEqual([kinds(found), kinds(found[0])], [[list] * 4, [list, int, int]])
        found[1].append(3)
        self.assertEqual(fallings(BB, TWO_THREE, 1), [[1, 1], [1, 0], [0, 0]])

    def test_greatest_weights(self):
        met = {True: 0, False: 0}
        for medium, rate in small_cases(46, 250, 4):
            most = 3 if len(medium) > 3 else 4
            weights = all_weights(medium, rate, most)
            found = greatest_weights(medium, rate, most)
            met[found is None] += 1
            if not weights:
                self.assertIsNone(found)
                self.assertEqual(max(fallings(medium, rate, most)[-1]), 0)
            else:
                self.assertTrue(isinstance(found, Weights))
                self.assertEqual(found.numbers(), [max(numbers) for numbers in zip(*weights)])
                self.assertIn(found.numbers(), weights)
                self.assertEqual(found.numbers(), fallings(medium, rate, most)[-1])
                self.assertTrue(found.medium == medium)
                self.assertTrue(found.rate == rate)
        self.assertGreater(min(met.values()), 30)

    def test_some_greatest_weights(self):
        self.assertEqual(greatest_weights(BB, TWO_THREE, 3).numbers(), [3, 2])
        self.assertEqual([greatest_weights(BB, TWO_THREE, most) for most in (0, 1)], [None, None])
        self.assertEqual(greatest_weights(most=64, medium=BB, rate=TWO_THREE).numbers(), [64, 42])
        self.assertIsNone(greatest_weights(Medium.free(2), Rate(1, 1), 0))
        self.assertEqual(greatest_weights(SUMS, Rate(1, 2), 1).numbers(), [1, 1, 1])

    def test_big_media(self):
        for medium in big_media(47, 6):
            for rate in RATES[::5]:
                found = greatest_weights(medium, rate, 64)
                last = plain_fallings(medium, rate, 64)[-1]
                self.assertEqual([0] * len(medium) if found is None else found.numbers(), last)


class Least(unittest.TestCase):
    def test_against_a_plain_listing(self):
        met = {}
        for medium, rate in [*small_cases(48, 700, 4), (narrow_ring(2), Rate(1, 1))]:
            if has_weights(medium, rate):
                least = least_weight(medium, rate)
                met[least] = True
                if least <= 4:
                    self.assertTrue(all_weights(medium, rate, least))
                    self.assertFalse(least > 1 and all_weights(medium, rate, least - 1))
                else:
                    self.assertFalse(all_weights(medium, rate, 4))
                self.assertEqual(max(greatest_weights(medium, rate, least).numbers()), least)
                self.assertIsNone(greatest_weights(medium, rate, least - 1))
                self.check_needs(medium, rate, least)
        self.assertGreater(len(met), 3)

    def check_needs(self, medium, rate, least):
        weight, ahead = needs(medium, rate)
        self.assertEqual(weight, least)
        self.assertLessEqual(least, 2 ** (rate.p * ahead))
        self.assertTrue(ahead == 0 or least > 2 ** (rate.p * (ahead - 1)))

    def test_some(self):
        self.assertEqual([least_weight(BB, TWO_THREE), needs(BB, TWO_THREE)], [2, (2, 1)])
        self.assertEqual([least_weight(rate=Rate(1, 2), medium=SUMS), needs(medium=SUMS, rate=Rate(1, 2))], [1, (1, 0)])
        self.assertEqual(needs(Medium.free(4), Rate(6, 3)), (1, 0))
        self.assertEqual(kinds(needs(BB, TWO_THREE)), [tuple, int, int])

    def test_64_and_more(self):
        for length in range(1, 9):
            medium = narrow_ring(length)
            least = 2 ** length
            self.assertEqual(len(medium), 2 * length)
            self.assertTrue(has_weights(medium, Rate(1, 1)))
            if least <= 64:
                self.assertEqual(least_weight(medium, Rate(1, 1)), least)
                self.assertEqual(needs(medium, Rate(1, 1)), (least, length))
                self.assertIsNone(greatest_weights(medium, Rate(1, 1), least - 1))
                self.assertEqual(max(greatest_weights(medium, Rate(1, 1), least).numbers()), least)
            else:
                self.assertIsNone(greatest_weights(medium, Rate(1, 1), 64))
                for call in (least_weight, needs):
                    check_error(self, TooMany, call, medium, Rate(1, 1), what="weight", limit=64)

    def test_loads(self):
        met = 0
        for medium, rate in small_cases(49, 60, 8):
            if not has_weights(medium, rate):
                met += 1
                for call in (least_weight, needs):
                    with self.assertRaises(NoWeights) as caught:
                        call(medium, rate)
                    found = caught.exception.paper
                    self.assertEqual(vars(caught.exception), {"paper": found})
                    self.assertTrue(isinstance(found, Loads))
                    self.assertTrue(found.medium == medium)
                    self.assertTrue(found.rate == rate)
        self.assertGreater(met, 10)


def narrow_ring(length):
    """A ring of so many states with one sign and as many with four: 2 ways for each sign, if one waits long enough."""
    narrow = [{"a": state + 1} for state in range(length)]
    wide = [{sign: (state + 1) % (2 * length) for sign in "abcd"} for state in range(length, 2 * length)]
    return Medium(4, narrow + wide)


class Declines(unittest.TestCase):
    def test_fallings_to_0(self):
        met = {True: 0, False: 0}
        for medium, rate in small_cases(50, 150, 8):
            for most in (0, 1, 2, 7, 64):
                value = fallings(medium, rate, most)
                is_one = max(value[-1]) == 0
                met[is_one] += 1
                self.assertIs(is_decline(medium, rate, most, value), is_one)
                self.assertIs(is_decline(medium, rate, most, tuple(map(tuple, value))), is_one)
                self.assertIs(is_decline(medium, rate, most + 1 if most < 64 else 63, value), False)
        self.assertGreater(min(met.values()), 50)

    def test_slower_ones(self):
        random = Random(51)
        met = 0
        for medium, rate in small_cases(52, 200, 6):
            if has_weights(medium, rate):
                continue
            met += 1
            value = [[9] * len(medium)]
            while max(value[-1]) > 0:
                lows = plain_fall(medium, rate, value[-1])
                value.append([random.randrange(low, high + 1) for low, high in zip(lows, value[-1])])
            self.assertIs(is_decline(medium, rate, 9, value), True)
            # One that stays for a while, and one that goes down too far in one place.
            at = random.randrange(len(value))
            self.assertIs(is_decline(medium, rate, 9, value[:at] + [value[at]] + value[at:]), True)
            self.check_wrong_places(medium, rate, value, random)
        self.assertGreater(met, 40)

    def check_wrong_places(self, medium, rate, value, random):
        for _ in range(5):
            at = random.randrange(1, len(value))
            state = random.randrange(len(medium))
            for number in (plain_fall(medium, rate, value[at - 1])[state] - 1, value[at - 1][state] + 1):
                wrong = [list(numbers) for numbers in value]
                wrong[at][state] = number
                self.assertIs(is_decline(medium, rate, 9, wrong), False)
        self.assertIs(is_decline(medium, rate, 9, value[1:]), max(value[1]) == min(value[1]) == 9)
        self.assertIs(is_decline(medium, rate, 9, value[:-1]), max(value[-2]) == 0)

    def test_some(self):
        value = [[1, 1], [1, 0], [0, 0]]
        self.assertIs(is_decline(value=value, most=1, rate=TWO_THREE, medium=BB), True)
        self.assertIs(is_decline(BB, TWO_THREE, 1, [[1, 1], [0, 0]]), False)
        self.assertIs(is_decline(BB, TWO_THREE, 2, [[2, 2], [2, 1]]), False)
        self.assertIs(is_decline(BB, TWO_THREE, 0, [[0, 0]]), True)
        self.assertIs(is_decline(BB, TWO_THREE, 0, ((0, 0), [0, 0])), True)
        self.assertIs(is_decline(BB, TWO_THREE, 1, [[0, 0]]), False)
        self.assertIs(is_decline(BB, TWO_THREE, 1, [[1, 1]]), False)

    def test_values_of_other_kinds(self):
        value = [[1, 1], [1, 0], [0, 0]]
        for other in (*OTHERS, [], (), [[]], [[1, 1], [1, 0], [0, 0, 0]], [[1, 1], [1], [0, 0]], [[1, 1], None, [0, 0]],
                      [[1, 1], {0: 1, 1: 0}, [0, 0]], {0: [1, 1]}, "ab", [1, 1], ["11", "10", "00"],
                      [[1, 1], "10", [0, 0]]):
            self.assertIs(is_decline(BB, TWO_THREE, 1, other), False, other)
        for at in range(3):
            for state in range(2):
                for other in (*NO_INTEGERS, -1):
                    wrong = [list(numbers) for numbers in value]
                    wrong[at][state] = other
                    self.assertIs(is_decline(BB, TWO_THREE, 1, wrong), False)
        for other in ([[1, 1], [True, 0], [0, 0]], [[1, 1], [1, False], [0, 0]], [[1, 1], [1, 0], [0, False]]):
            self.assertIs(is_decline(BB, TWO_THREE, 1, other), False)


class WrongCalls(unittest.TestCase):
    def tearDown(self):
        """Behind each refusal the medium and the rate are as they were."""
        self.assertEqual([BB.table(), repr(TWO_THREE)], [[{"a": 0, "b": 1}, {"a": 0}], "Rate(2, 3)"])

    def test_no_media_no_rates(self):
        for call, more in ((fall, [None]), (fallings, [None]), (greatest_weights, [None]), (least_weight, []),
                           (needs, []), (is_decline, [None, None])):
            for value in (*OTHERS, BB.table()):
                check_error(self, InvalidMedium, call, value, None, *more, value=value)
            for value in NO_RATES:
                check_error(self, InvalidRate, call, BB, value, *more, value=value)

    def test_no_most(self):
        for value in NO_MOST:
            check_error(self, InvalidCount, fallings, BB, TWO_THREE, value, value=value)
            check_error(self, InvalidCount, greatest_weights, BB, TWO_THREE, value, value=value)
            check_error(self, InvalidCount, is_decline, BB, TWO_THREE, value, None, value=value)
        self.assertEqual(fallings(BB, TWO_THREE, 64)[0], [64, 64])

    def test_no_numbers(self):
        for value in (*OTHERS, [], [1], [1, 2, 3], "ab", {0: 1, 1: 2}, range(2), Thing()):
            check_error(self, InvalidNumbers, fall, BB, TWO_THREE, value, position=None)
        for value in (*NO_INTEGERS, -1, -10 ** 30):
            check_error(self, InvalidNumbers, fall, BB, TWO_THREE, [value, None], position=0)
            check_error(self, InvalidNumbers, fall, BB, TWO_THREE, (0, value), position=1)
