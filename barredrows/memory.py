"""The memory of a medium, or rows that show that it has none."""

from barredrows.basics import is_row
from barredrows.graphs import heights, path_and_ring, written_on
from barredrows.media import check_medium


def memory(medium):
    """How many last signs of a row tell the state to which it leads, None if no number does."""
    check_medium(medium)
    after = pairs_after(medium)
    high = heights(after)
    if len(high) < len(after):
        return None
    # Behind the longest walk through two different states a further sign makes them one.
    return max([number + 1 for number in high.values()], default=0)


def endless_rows(medium):
    """Endless rows, None if the medium has a memory."""
    check_medium(medium)
    after = pairs_after(medium)
    high = heights(after)
    endless = [pair for pair in after if pair not in high]
    if not endless:
        return None
    _, ring = path_and_ring(after, high, endless[0])
    one, other = ring[0]
    return medium.least_row(one), medium.least_row(other), "".join(written_on(after, ring))


def is_endless(medium, value):
    """Whether any value is endless rows of the medium."""
    check_medium(medium)
    if not isinstance(value, tuple) or len(value) != 3 or not all([is_row(row) for row in value]):
        return False
    one, other, ring = value
    first, second = medium.walk(one, 0), medium.walk(other, 0)
    if first is None or second is None or first == second or ring == "":
        return False
    return medium.walk(ring, first) == first and medium.walk(ring, second) == second


def pairs_after(medium):
    """The steps between pairs of different states, the same sign being walked from both."""
    table = medium.table()
    states = range(len(table))
    pairs = [(one, other) for one in states for other in states if one != other]
    return {(one, other): steps_together(table[one], table[other]) for one, other in pairs}


def steps_together(first, second):
    return {
        (first[sign], second[sign]): sign
        for sign in first if sign in second and first[sign] != second[sign]
    }
