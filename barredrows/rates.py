"""The best rates of a medium."""

from barredrows.checks import check_length
from barredrows.exact import grows
from barredrows.media import check_medium
from barredrows.papers import MOST_IN_RATE
from barredrows.steps import ways_grid


def best(medium, length):
    """The greatest number of bits for which there are weights with so many signs, 0 if there is none."""
    check_medium(medium)
    check_length(length, 1, MOST_IN_RATE)
    return best_above(medium, length, 0)


def profile(medium):
    """The list of the best for one to six signs."""
    check_medium(medium)
    found = []
    for length in range(1, MOST_IN_RATE + 1):
        # What shorter ways have together is no more than the best, so nothing below it has to be asked.
        together = [one + other for one, other in zip(found, found[::-1])]
        found.append(best_above(medium, length, min(max(together, default=0), MOST_IN_RATE)))
    return found


def best_above(medium, length, bits):
    """The best for so many signs, if it is at least this number of bits."""
    grid = ways_grid(medium.leads(), length)
    while bits < MOST_IN_RATE and grows(grid, 1 << (bits + 1)):
        bits += 1
    return bits
