import unittest
from random import Random

from barredrows.errors import (
    InvalidMedium,
    InvalidNumber,
    InvalidNumbers,
    InvalidPaper,
    InvalidRate,
    InvalidState,
    OtherMedium,
    OtherRate,
    TooMany,
)
from barredrows.media import Medium
from barredrows.papers import Loads, Paper, Rate, Weights
from tests.helpers import NO_INTEGERS, OTHERS, check_error, kinds, plain_sums
from tests.test_media import random_media

BB = Medium.barring(2, "bb")
TWO_THREE = Rate(2, 3)
THREE_FOUR = Rate(3, 4)
WEIGHTS = Weights(BB, TWO_THREE, [2, 1])
LOADS = Loads(BB, THREE_FOUR, [3, 2])
NO_RATES = (*OTHERS, "2:3", (2, 3), [2, 3], 2, WEIGHTS)
RATES = [Rate(p, q) for p in range(1, 7) for q in range(1, 7)]


def plainly(medium, rate, numbers):
    """The first state where numbers of the right kind are no weights, and no loads; None where they are."""
    sums = plain_sums(medium, rate.q, numbers)
    states = range(len(medium))
    no_weights = [state for state in states if sums[state] < 2 ** rate.p * numbers[state]]
    no_loads = [state for state in states if sums[state] >= 2 ** rate.p * numbers[state]]
    return [found[0] if found else None for found in (no_weights, no_loads)]


class Rates(unittest.TestCase):
    def test_parts(self):
        for p in range(1, 7):
            for q in range(1, 7):
                rate = Rate(p, q)
                self.assertEqual([rate.p, rate.q, rate.size, str(rate), repr(rate)],
                                 [p, q, 2 ** p, f"{p}:{q}", f"Rate({p}, {q})"])
                self.assertTrue(Rate(q=q, p=p) == rate == Rate.read(f"{p}:{q}"))
                self.assertEqual([other for other in RATES if other == rate], [rate])
                self.assertIs(rate == Rate(p, q), True)
                self.assertIs(rate != Rate(p, q), False)

    def test_equal_to_no_other_value(self):
        for value in NO_RATES:
            self.assertIs(TWO_THREE == value, False)
            self.assertIs(TWO_THREE != value, True)

    def test_no_numbers(self):
        for value in (*NO_INTEGERS, 0, 7, -1, 10 ** 30):
            check_error(self, InvalidNumber, Rate, value, 0, value=value)
            check_error(self, InvalidNumber, Rate, 1, value, value=value)
        check_error(self, InvalidNumber, lambda: Rate(q=0, p=7), value=7)

    def test_times(self):
        for p, q, times in ((1, 1, 1), (1, 1, 6), (2, 3, 2), (3, 2, 2), (1, 3, 2), (6, 6, 1), (1, 2, 3)):
            rate = Rate(p, q)
            self.assertEqual(repr(rate * times), f"Rate({p * times}, {q * times})")
            self.assertEqual(repr(times * rate), f"Rate({p * times}, {q * times})")
            self.assertEqual(repr(rate), f"Rate({p}, {q})")

    def test_too_many_times(self):
        for p, q, times in ((1, 1, 7), (2, 3, 3), (3, 2, 3), (6, 1, 2), (1, 6, 2), (1, 4, 2), (4, 1, 10 ** 39)):
            check_error(self, TooMany, lambda: Rate(p, q) * times, what="rate", limit=6)
            check_error(self, TooMany, lambda: times * Rate(p, q), what="rate", limit=6)

    def test_no_times(self):
        for value in (*NO_INTEGERS, 0, -1, -10 ** 30, Rate(6, 6)):
            check_error(self, InvalidNumber, lambda: Rate(6, 6) * value, value=value)
            check_error(self, InvalidNumber, lambda: value * Rate(6, 6), value=value)

    def test_read(self):
        self.assertTrue(Rate.read(string="2:3") == TWO_THREE)
        self.assertTrue(TWO_THREE.read("6:1") == Rate(6, 1))
        for value in (*NO_RATES[:-5], "", ":", "2:", ":3", "2:3 ", " 2:3", "2:03", "02:3", "+2:3", "2 3", "2;3", "0:3",
                      "7:1", "1:7", "2:0", "2:-3", "-2:3", "12:3", "2:12", "a:b", "2::3", "2:3\n", "2:3:4",
                      ("2", ":", "3"), ["2", ":", "3"], b"2:3", TWO_THREE, 23, "2/3", "123"):
            check_error(self, InvalidRate, Rate.read, value, value=value)


class Papers(unittest.TestCase):
    def test_parts(self):
        for paper, rate, numbers in ((WEIGHTS, TWO_THREE, [2, 1]), (LOADS, THREE_FOUR, [3, 2])):
            self.assertTrue(paper.medium == BB)
            self.assertTrue(paper.rate == rate)
            self.assertEqual([paper.total, paper.numbers(), len(paper)], [sum(numbers), numbers, 2])
            self.assertEqual([paper[0], paper[1]], numbers)
            self.assertTrue(isinstance(paper, Paper))
        self.assertEqual([WEIGHTS.slack(0), WEIGHTS.slack(state=1), LOADS.slack(0), LOADS.slack(1)], [0, 1, 3, 3])
        self.assertEqual([WEIGHTS.says(), LOADS.says()], ["weights", "loads"])
        self.assertEqual([repr(WEIGHTS), repr(LOADS)], ["Weights(2:3, [2, 1])", "Loads(3:4, [3, 2])"])
        self.assertEqual(repr(Weights(BB, Rate(1, 2), (1, 1))), "Weights(1:2, [1, 1])")

    def test_conditions_and_slack(self):
        random = Random(33)
        seen = {None: 0}
        for _, medium in random_media(34, 300):
            rate = random.choice(RATES)
            numbers = [random.randrange(1, 4) for _ in range(len(medium))]
            sums = plain_sums(medium, rate.q, numbers)
            slack = [abs(total - 2 ** rate.p * number) for total, number in zip(sums, numbers)]
            for paper, wrong in zip((Weights, Loads), plainly(medium, rate, numbers)):
                seen[wrong] = seen.get(wrong, 0) + 1
                if wrong is None:
                    made = paper(medium, rate, numbers)
                    self.assertEqual([made.slack(state) for state in range(len(medium))], slack)
                    self.assertEqual(made.numbers(), numbers)
                else:
                    check_error(self, InvalidNumbers, paper, medium, rate, numbers, position=wrong)
        self.assertGreater(min(seen[None], seen[0], seen[1], seen[2]), 10)

    def test_numbers_0(self):
        sums = Medium.sums(1, -1, low=-1, high=1)
        self.assertEqual(Weights(sums, Rate(1, 2), [1, 0, 0]).slack(0), 0)
        self.assertEqual(Weights(sums, Rate(1, 2), [0, 3, 3]).numbers(), [0, 3, 3])
        check_error(self, InvalidNumbers, Weights, sums, Rate(1, 2), [0, 3, 0], position=1)
        check_error(self, InvalidNumbers, Weights, sums, Rate(1, 2), [0, 0, 0], position=None)
        check_error(self, InvalidNumbers, Weights, BB, Rate(6, 1), [0, 0], position=None)
        check_error(self, InvalidNumbers, Loads, BB, THREE_FOUR, [0, 1], position=0)
        check_error(self, InvalidNumbers, Loads, BB, THREE_FOUR, [3, 0], position=1)
        check_error(self, InvalidNumbers, Loads, BB, THREE_FOUR, [0, 0], position=0)

    def test_great_numbers(self):
        many = 10 ** 280
        self.assertEqual((WEIGHTS * many).numbers(), [2 * many, many])
        self.assertEqual((WEIGHTS * many).slack(1), many)
        self.assertEqual((LOADS * many).total, 5 * many)
        check_error(self, InvalidNumbers, Weights, BB, TWO_THREE, [2 * many + 1, many], position=0)

    def test_one_and_sixteen_states(self):
        one = Medium(2, [{"b": 0}])
        check_error(self, InvalidNumbers, Weights, one, Rate(1, 6), [1], position=0)
        self.assertEqual(Loads(one, Rate(1, 6), [1]).slack(0), 1)
        free = Medium.free(4)
        self.assertEqual(Weights(free, Rate(6, 3), [5]).slack(0), 0)
        self.assertEqual(Weights(free, Rate(6, 6), [1]).slack(0), 4096 - 64)
        check_error(self, InvalidNumbers, Loads, free, Rate(6, 3), [5], position=0)
        sums = Medium.sums(1, -1, low=-8, high=7)
        self.assertEqual(Weights(sums, Rate(1, 2), [1] + [0] * 15).slack(0), 0)
        self.assertEqual(len(Weights(sums, Rate(1, 3), [1] * 16)), 16)

    def test_equal(self):
        self.assertIs(WEIGHTS == Weights(BB, Rate(2, 3), (2, 1)), True)
        self.assertIs(LOADS == Loads(Medium.barring(2, "bb"), Rate(3, 4), [3, 2]), True)
        others = [LOADS, WEIGHTS * 2, Weights(BB, Rate(1, 3), [2, 1]), Loads(BB, Rate(4, 4), [2, 1])]
        for value in [*others, *OTHERS, [2, 1], (2, 1)]:
            self.assertIs(WEIGHTS == value, False)
            self.assertIs(WEIGHTS != value, True)
        for value in [WEIGHTS, LOADS * 2, *OTHERS, [3, 2], (3, 2)]:
            self.assertIs(LOADS == value, False)
            self.assertIs(LOADS != value, True)
        # The same numbers, once with another medium, once with another class.
        aa = Medium.barring(2, "aa")
        self.assertFalse(Weights(BB, Rate(1, 3), [1, 1]) == Weights(aa, Rate(1, 3), [1, 1]))
        self.assertFalse(Loads(BB, Rate(3, 3), [2, 1]) == Weights(BB, Rate(2, 3), [2, 1]))
        self.assertFalse(Loads(BB, Rate(3, 3), [2, 1]) == Loads(BB, Rate(4, 3), [2, 1]))

    def test_what_was_passed_stays(self):
        numbers = [2, 1]
        paper = Weights(BB, TWO_THREE, numbers)
        numbers[0] = 9
        paper.numbers().append(5)
        self.assertEqual(paper.numbers(), [2, 1])
        self.assertIsNot(paper.numbers(), paper.numbers())
        self.assertEqual(len(paper), 2)

    def test_not_iterated_over(self):
        for paper in (WEIGHTS, LOADS):
            with self.assertRaises(TypeError):
                list(paper)

    def test_by_name(self):
        self.assertTrue(Weights(numbers=[2, 1], medium=BB, rate=TWO_THREE) == WEIGHTS)
        self.assertTrue(Loads(numbers=(3, 2), medium=BB, rate=THREE_FOUR) == LOADS)

    def test_kinds(self):
        self.assertEqual(kinds(WEIGHTS.numbers()), [list, int, int])


class Together(unittest.TestCase):
    def test_sums_multiples_greater_lesser(self):
        random = Random(35)
        met = {"weights": 0, "loads": 0}
        for _, medium in random_media(36, 400):
            rate = random.choice(RATES)
            papers = []
            for _ in range(8):
                numbers = [random.randrange(1, 6) for _ in range(len(medium))]
                for paper, wrong in zip((Weights, Loads), plainly(medium, rate, numbers)):
                    if wrong is None:
                        papers.append(paper(medium, rate, numbers))
            if len(papers) > 1:
                met[papers[0].says()] += 1
                self.check_two(papers[0], papers[1], random.choice((1, 2, 7, 10 ** 20)))
        self.assertGreater(min(met.values()), 20)

    def check_two(self, one, other, times):
        made = [one + other, one * times, one | other if one.says() == "weights" else one & other]
        choose = max if one.says() == "weights" else min
        pairs = list(zip(one.numbers(), other.numbers()))
        wanted = [[first + second for first, second in pairs], [number * times for number in one.numbers()],
                  [choose(pair) for pair in pairs]]
        for paper, numbers in zip(made, wanted):
            self.assertEqual(paper.__class__, one.__class__)
            self.assertEqual(paper.numbers(), numbers)
            self.assertTrue(paper.medium == one.medium)
            self.assertTrue(paper.rate == one.rate)
            self.assertIsNone(plainly(one.medium, one.rate, numbers)[one.says() == "loads"])
        self.assertEqual([one.numbers(), other.numbers()], [list(numbers) for numbers in zip(*pairs)])

    def test_some(self):
        three = Weights(BB, TWO_THREE, [3, 2])
        self.assertEqual(repr(WEIGHTS + three), "Weights(2:3, [5, 3])")
        self.assertEqual(repr(WEIGHTS | three), "Weights(2:3, [3, 2])")
        self.assertEqual(repr(WEIGHTS * 1), "Weights(2:3, [2, 1])")
        other = Loads(BB, THREE_FOUR, [8, 5])
        self.assertEqual(repr(LOADS + other), "Loads(3:4, [11, 7])")
        self.assertEqual(repr(LOADS & other), "Loads(3:4, [3, 2])")
        one, two = Weights(BB, Rate(1, 3), [1, 2]), Weights(BB, Rate(1, 3), [2, 1])
        self.assertEqual(repr(one | two), "Weights(1:3, [2, 2])")
        self.assertEqual(repr(Loads(BB, Rate(4, 3), [1, 2]) & Loads(BB, Rate(4, 3), [2, 1])), "Loads(4:3, [1, 1])")

    def test_no_papers(self):
        for value in (*OTHERS, [2, 1], LOADS, Loads(BB, Rate(2, 2), [2, 1]), TWO_THREE, BB, 0):
            check_error(self, InvalidPaper, lambda: WEIGHTS + value, value=value)
            check_error(self, InvalidPaper, lambda: WEIGHTS | value, value=value)
        for value in (*OTHERS, [3, 2], WEIGHTS, THREE_FOUR, BB, 0):
            check_error(self, InvalidPaper, lambda: LOADS + value, value=value)
            check_error(self, InvalidPaper, lambda: LOADS & value, value=value)
        # The class is asked first, then the medium, then the rate.
        value = Loads(Medium.barring(2, "ba"), Rate(6, 1), [1, 1])
        check_error(self, InvalidPaper, lambda: WEIGHTS + value, value=value)

    def test_other_media_and_rates(self):
        aa = Medium.barring(2, "aa")
        free = Medium.free(2)
        for value in (Weights(aa, Rate(1, 3), [1, 1]), Weights(free, TWO_THREE, [2])):
            check_error(self, OtherMedium, lambda: WEIGHTS + value)
            check_error(self, OtherMedium, lambda: WEIGHTS | value)
        for value in (Loads(aa, Rate(6, 1), [1, 1]), Loads(Medium.free(3), Rate(6, 1), [1])):
            check_error(self, OtherMedium, lambda: LOADS + value)
            check_error(self, OtherMedium, lambda: LOADS & value)
        for rate in (Rate(1, 3), Rate(2, 4), Rate(1, 2)):
            value = Weights(BB, rate, [2, 1])
            for call in (lambda: WEIGHTS + value, lambda: WEIGHTS | value):
                check_error(self, OtherRate, call, one=TWO_THREE, other=rate)
        value = Loads(BB, Rate(3, 3), [3, 2])
        for call in (lambda: LOADS + value, lambda: LOADS & value):
            check_error(self, OtherRate, call, one=THREE_FOUR, other=Rate(3, 3))

    def test_no_times(self):
        for value in (*NO_INTEGERS, 0, -1, -10 ** 30, WEIGHTS, TWO_THREE):
            check_error(self, InvalidNumber, lambda: WEIGHTS * value, value=value)
            check_error(self, InvalidNumber, lambda: LOADS * value, value=value)
        self.assertEqual([WEIGHTS.numbers(), LOADS.numbers()], [[2, 1], [3, 2]])

    def test_other_operators_are_none(self):
        for call in (lambda: WEIGHTS & WEIGHTS, lambda: LOADS | LOADS):
            with self.assertRaises(TypeError):
                call()


class WrongPapers(unittest.TestCase):
    def tearDown(self):
        """Behind each refusal the papers are as they were."""
        self.assertEqual([repr(WEIGHTS), repr(LOADS)], ["Weights(2:3, [2, 1])", "Loads(3:4, [3, 2])"])
        self.assertTrue(WEIGHTS.medium == BB)

    def test_no_media_no_rates(self):
        for paper in (Weights, Loads):
            for value in (*OTHERS, BB.table(), WEIGHTS):
                check_error(self, InvalidMedium, paper, value, None, None, value=value)
            for value in NO_RATES:
                check_error(self, InvalidRate, paper, BB, value, None, value=value)

    def test_no_lists(self):
        for paper, rate in ((Weights, TWO_THREE), (Loads, THREE_FOUR)):
            for value in (*OTHERS, [], [1], [1, 1, 1], "ab", {0: 1, 1: 1}, range(2), {1, 2}, WEIGHTS, [2], (None,)):
                check_error(self, InvalidNumbers, paper, BB, rate, value, position=None)

    def test_no_numbers(self):
        for paper, rate in ((Weights, TWO_THREE), (Loads, THREE_FOUR)):
            for value in (*NO_INTEGERS, -1, -10 ** 30):
                check_error(self, InvalidNumbers, paper, BB, rate, [value, None], position=0)
                check_error(self, InvalidNumbers, paper, BB, rate, (3, value), position=1)
                check_error(self, InvalidNumbers, paper, BB, rate, [0, value], position=1 if paper == Weights else 0)
        # What is no number comes ahead of a state where the condition fails.
        check_error(self, InvalidNumbers, Weights, BB, TWO_THREE, [9, True], position=1)
        check_error(self, InvalidNumbers, Weights, BB, TWO_THREE, [9, 1], position=0)
        check_error(self, InvalidNumbers, Weights, BB, TWO_THREE, [1, 1], position=1)
        check_error(self, InvalidNumbers, Loads, BB, THREE_FOUR, [2, 0], position=1)
        check_error(self, InvalidNumbers, Loads, BB, THREE_FOUR, [1, 2], position=0)
        check_error(self, InvalidNumbers, Loads, BB, THREE_FOUR, [2, 1], position=1)

    def test_no_states(self):
        for value in (*NO_INTEGERS, -1, 2, 10 ** 30, (0,)):
            for paper in (WEIGHTS, LOADS):
                check_error(self, InvalidState, lambda: paper[value], value=value)
                check_error(self, InvalidState, paper.slack, value, value=value)
