"""Falls, the greatest weights up to a number, and the least weight."""

from barredrows.basics import is_count
from barredrows.checks import check_length, check_numbers, is_list
from barredrows.errors import NoWeights, TooMany
from barredrows.exact import has_weights, paper
from barredrows.media import check_medium
from barredrows.papers import Weights, check_rate
from barredrows.steps import ends_sums

MOST_WEIGHT = 64


def fall(medium, rate, numbers):
    """One fall of the numbers."""
    check_medium(medium)
    check_rate(rate)
    check_numbers(numbers, len(medium), 0)
    return fallen(medium, rate, numbers)


def fallings(medium, rate, most):
    """The list of the fallings from so many for each state."""
    check_from(medium, rate, most)
    found = [[most for _ in range(len(medium))]]
    further = fallen(medium, rate, found[0])
    while further != found[-1]:
        found.append(further)
        further = fallen(medium, rate, further)
    return found


def greatest_weights(medium, rate, most):
    """The greatest weights of at most so many, None if there are no such weights."""
    check_from(medium, rate, most)
    numbers = settled(medium, rate, [most for _ in range(len(medium))])
    return Weights(medium, rate, numbers) if max(numbers) > 0 else None


def least_weight(medium, rate):
    """The least number for which there are weights of at most so many."""
    check_medium(medium)
    check_rate(rate)
    if not has_weights(medium, rate):
        raise NoWeights(paper(medium, rate))
    numbers = settled(medium, rate, [MOST_WEIGHT for _ in range(len(medium))])
    if max(numbers) == 0:
        raise TooMany("weight", MOST_WEIGHT)
    too_low = 0
    # The numbers are the greatest weights of at most some number, and there are none of at most too_low.
    while max(numbers) > too_low + 1:
        middle = (too_low + max(numbers)) // 2
        # No greater weights are left out by beginning here instead of with the same number for each state.
        fewer = settled(medium, rate, [min(number, middle) for number in numbers])
        if max(fewer) > 0:
            numbers = fewer
        else:
            too_low = middle
    return max(numbers)


def is_decline(medium, rate, most, value):
    """Whether any value is a decline from most."""
    check_from(medium, rate, most)
    size = len(medium)
    if not is_list(value) or not value or not all([is_list_of_counts(numbers, size) for numbers in value]):
        return False
    if list(value[0]) != [most for _ in range(size)] or max(value[-1]) > 0:
        return False
    return all([is_slower(medium, rate, before, numbers) for before, numbers in zip(value, value[1:])])


def needs(medium, rate):
    """The least weight, and the least look-ahead with which it is reached."""
    weight = least_weight(medium, rate)
    ahead = 0
    texts = 1
    while texts < weight:
        texts = texts * rate.size
        ahead += 1
    return weight, ahead


def fallen(medium, rate, numbers):
    sums = ends_sums(medium.leads(), rate.q, numbers)
    return [min(number, total // rate.size) for number, total in zip(numbers, sums)]


def settled(medium, rate, numbers):
    """The last list of falls, one after another, of these numbers."""
    further = fallen(medium, rate, numbers)
    while further != numbers:
        numbers = further
        further = fallen(medium, rate, numbers)
    return numbers


def is_list_of_counts(value, size):
    return is_list(value) and len(value) == size and all([is_count(number) for number in value])


def is_slower(medium, rate, before, numbers):
    """Whether numbers go down at most as far as the fall of those before them."""
    least = fallen(medium, rate, before)
    return all([low <= number <= high for low, number, high in zip(least, numbers, before)])


def check_from(medium, rate, most):
    check_medium(medium)
    check_rate(rate)
    check_length(most, 0, MOST_WEIGHT)
