"""Weights or loads for any medium and rate, by exact reckoning."""

from math import gcd

from barredrows.checks import check_length
from barredrows.errors import TooMany
from barredrows.media import check_medium
from barredrows.papers import Loads, Weights, check_rate
from barredrows.steps import ends_sums, ways_grid

MOST_MORE = 100
MOST_WORDS = 200


def paper(medium, rate):
    """Weights if there are any, else loads."""
    check_medium(medium)
    check_rate(rate)
    rows = eliminated(ways_grid(medium.leads(), rate.q), rate.size)
    numbers = lowest_terms(solved(rows))
    if len(rows) > len(medium):
        return Loads(medium, rate, numbers[:-1])
    return Weights(medium, rate, numbers + [0 for _ in range(len(medium) - len(numbers))])


def has_weights(medium, rate):
    """Whether there are weights."""
    check_medium(medium)
    check_rate(rate)
    return grows(ways_grid(medium.leads(), rate.q), rate.size)


def too_few(medium, rate, more=0):
    """The least number of words at which there are fewer rows than texts, None if there are weights."""
    check_medium(medium)
    check_rate(rate)
    check_length(more, 0, MOST_MORE)
    if has_weights(medium, rate):
        return None
    leads = medium.leads()
    counts = ends_sums(leads, more, [1 for _ in range(len(medium))])
    texts = 1
    for words in range(1, MOST_WORDS + 1):
        counts = ends_sums(leads, rate.q, counts)
        texts = texts * rate.size
        if counts[0] < texts:
            return words
    raise TooMany("words", MOST_WORDS)


def grows(grid, size):
    """Whether some part of the ways of this grid grows by at least this size with each way."""
    return len(eliminated(grid, size)) <= len(grid)


def eliminated(grid, size):
    """The first rows of the equations size * y - grid * y = z, each without the unknown numbers ahead of its own.

    What stands first in a row is the determinant of the equations so far. The last row is the first one where it is
    not above 0: with its state the states so far grow, without it they do not. If there is none, a row for z, one
    number for all states, stands last.
    """
    states = range(len(grid))
    left = [[(size if one == other else 0) - grid[one][other] for other in states] + [-1] for one in states]
    rows = []
    before = 1
    while left:
        first, *others = left
        rows.append(first)
        if first[0] <= 0:
            return rows
        left = [less_one(first, row, before) for row in others]
        before = first[0]
    return rows + [[-1]]


def less_one(first, row, before):
    """The row without its first unknown number; it can be divided by the determinant before."""
    pivot, factor = first[0], row[0]
    return [(pivot * number - factor * other) // before for number, other in zip(row[1:], first[1:])]


def solved(rows):
    """Numbers with which all rows but the last one come to 0: one for each of them, and one for the last row, which
    is the determinant of the others, and so makes all of them whole.
    """
    last = len(rows) - 1
    numbers = [rows[last - 1][0] if last else 1]
    for state in range(last - 1, -1, -1):
        first, *others = rows[state]
        total = sum([factor * number for factor, number in zip(others, numbers)])
        numbers = [-total // first, *numbers]
    return numbers


def lowest_terms(numbers):
    common = 0
    for number in numbers:
        common = gcd(common, number)
    return [number // common for number in numbers]
