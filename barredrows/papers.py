"""Rates, and the papers that decide about them: weights and loads."""

from barredrows.basics import is_between, is_integer
from barredrows.checks import check_numbers, check_state
from barredrows.errors import (
    InvalidNumber,
    InvalidNumbers,
    InvalidPaper,
    InvalidRate,
    OtherMedium,
    OtherRate,
    TooMany,
)
from barredrows.media import check_medium
from barredrows.steps import ends_sums

MOST_IN_RATE = 6
DIGITS = "123456"


class Rate:
    """So many bits as so many signs."""

    def __init__(self, p, q):
        for number in (p, q):
            if not is_between(number, 1, MOST_IN_RATE):
                raise InvalidNumber(number)
        self._p = p
        self._q = q

    @staticmethod
    def read(string):
        """The Rate that is written P:Q."""
        if not is_rate(string):
            raise InvalidRate(string)
        return Rate(int(string[0]), int(string[2]))

    @property
    def p(self):
        return self._p

    @property
    def q(self):
        return self._q

    @property
    def size(self):
        """The number of the words of p bits."""
        return 1 << self._p

    def __mul__(self, other):
        return multiple(self, other)

    def __rmul__(self, other):
        return multiple(self, other)

    def __eq__(self, other):
        return isinstance(other, Rate) and self._p == other._p and self._q == other._q

    def __str__(self):
        return f"{self._p}:{self._q}"

    def __repr__(self):
        return f"Rate({self._p}, {self._q})"


class Paper:
    """A number for each state of a medium that decides about a rate; it is either Weights or Loads."""

    def __init__(self, medium, rate, numbers):
        self._medium = medium
        self._rate = rate
        self._numbers = list(numbers)
        self._sums = ends_sums(medium.leads(), rate.q, numbers)

    @property
    def medium(self):
        return self._medium

    @property
    def rate(self):
        return self._rate

    @property
    def total(self):
        """The sum of the numbers."""
        return sum(self._numbers)

    def numbers(self):
        """The list of the numbers of the states."""
        return list(self._numbers)

    def slack(self, state):
        """How far the numbers of the ends are away from what the state asks of them."""
        check_state(state, len(self))
        return abs(self._sums[state] - self._rate.size * self._numbers[state])

    def __getitem__(self, at):
        check_state(at, len(self))
        return self._numbers[at]

    def __len__(self):
        return len(self._numbers)

    def __add__(self, other):
        check_like(self, other)
        return renewed(self, [one + two for one, two in zip(self._numbers, other._numbers)])

    def __mul__(self, other):
        check_times(other)
        return renewed(self, [number * other for number in self._numbers])

    def __eq__(self, other):
        return isinstance(other, Paper) and is_like(self, other) and self._numbers == other._numbers

    def __iter__(self):
        raise TypeError("a Paper is not iterated over")


class Weights(Paper):
    """Numbers that are at most the sum of those of the ends, divided by the number of words."""

    def __init__(self, medium, rate, numbers):
        check_medium(medium)
        check_rate(rate)
        check_numbers(numbers, len(medium), 0)
        if not any([number > 0 for number in numbers]):
            raise InvalidNumbers(None)
        Paper.__init__(self, medium, rate, numbers)
        for state, number in enumerate(self._numbers):
            if self._sums[state] < rate.size * number:
                raise InvalidNumbers(state)

    def says(self):
        return "weights"

    def __or__(self, other):
        check_like(self, other)
        return Weights(self._medium, self._rate, [max(pair) for pair in zip(self._numbers, other._numbers)])

    def __repr__(self):
        return f"Weights({self._rate}, {self._numbers})"


class Loads(Paper):
    """Numbers that are greater than the sum of those of the ends, divided by the number of words."""

    def __init__(self, medium, rate, numbers):
        check_medium(medium)
        check_rate(rate)
        check_numbers(numbers, len(medium), 1)
        Paper.__init__(self, medium, rate, numbers)
        for state, number in enumerate(self._numbers):
            if self._sums[state] >= rate.size * number:
                raise InvalidNumbers(state)

    def says(self):
        return "loads"

    def __and__(self, other):
        check_like(self, other)
        return Loads(self._medium, self._rate, [min(pair) for pair in zip(self._numbers, other._numbers)])

    def __repr__(self):
        return f"Loads({self._rate}, {self._numbers})"


def is_rate(value):
    """Whether any value is a string P:Q."""
    if not isinstance(value, str) or len(value) != 3 or value[1] != ":":
        return False
    return value[0] in DIGITS and value[2] in DIGITS


def multiple(rate, times):
    """So many times the bits of the rate as so many times its signs."""
    check_times(times)
    if max(rate.p, rate.q) * times > MOST_IN_RATE:
        raise TooMany("rate", MOST_IN_RATE)
    return Rate(rate.p * times, rate.q * times)


def renewed(paper, numbers):
    """The paper of the same class, medium and rate with these numbers."""
    if isinstance(paper, Weights):
        return Weights(paper.medium, paper.rate, numbers)
    return Loads(paper.medium, paper.rate, numbers)


def is_one_class(one, other):
    return isinstance(one, Weights) == isinstance(other, Weights)


def is_like(one, other):
    """Whether two papers have the same class, medium and rate."""
    return is_one_class(one, other) and one.medium == other.medium and one.rate == other.rate


def check_like(one, other):
    """Check what is put together with a paper."""
    if not isinstance(other, Paper) or not is_one_class(one, other):
        raise InvalidPaper(other)
    if one.medium != other.medium:
        raise OtherMedium()
    if one.rate != other.rate:
        raise OtherRate(one.rate, other.rate)


def check_times(times):
    if not is_integer(times) or times < 1:
        raise InvalidNumber(times)


def check_rate(rate):
    if not isinstance(rate, Rate):
        raise InvalidRate(rate)


def check_weights(weights):
    if not isinstance(weights, Weights):
        raise InvalidPaper(weights)
