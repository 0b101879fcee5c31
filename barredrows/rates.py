"""The best rates of a medium."""

from barredrows.checks import check_length
from barredrows.exact import grows
from barredrows.media import check_medium
from barredrows.papers import MOST_IN_RATE
from barredrows.steps import ways_grid


def best(medium, length):
    """The greatest number of bits for which there are weights with so many signs, 0 if there is none."""
    check_medium(medium)
    check_length(length, 1, MOST_IN_RATE)
    return best_between(medium, length, 0, MOST_IN_RATE)


def profile(medium):
    """The list of the best for one to six signs."""
    check_medium(medium)
    found = []
    for length in range(1, MOST_IN_RATE + 1):
        found.append(best_between(medium, length, least_bits(found), most_bits(found, length)))
    return found


def best_between(medium, length, low, high):
    """The best for so many signs, if it is known to lie between these numbers of bits."""
    grid = ways_grid(medium.leads(), length)
    bits = low
    while bits < high and grows(grid, 1 << (bits + 1)):
        bits += 1
    return bits


def least_bits(found):
    """What the best for one sign more than have been found is at least: the sum of two of these."""
    together = [one + other for one, other in zip(found, found[::-1])]
    return min(max(together, default=0), MOST_IN_RATE)


def most_bits(found, length):
    """What the best for so many signs is at most, by the best that have been found for fewer."""
    # There are loads for one bit more than the best, so all ways grow by less than that in so many signs.
    bounds = [((bits + 1) * length - 1) // shorter for shorter, bits in enumerate(found, 1) if bits < MOST_IN_RATE]
    return min([MOST_IN_RATE] + bounds)
