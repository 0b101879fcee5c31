"""Ways of several signs between the states of a medium, and the parts that they join."""

from barredrows.checks import MOST_LENGTH, check_length, check_state
from barredrows.media import check_medium
from barredrows.reach import closed_reach, part_of, reached_after
from barredrows.steps import ways_grid
from barredrows.tables import walks

MOST_LISTED_LENGTH = 6


def ways(medium, length):
    """How many ways of so many signs lead from each state, a list of its own, to each state."""
    check_medium(medium)
    check_length(length, 0, MOST_LENGTH)
    return ways_grid(medium.leads(), length)


def ways_from(medium, length, state):
    """The tuples (way, end) of all ways of so many signs from the state, in the order of the ways."""
    check_medium(medium)
    check_length(length, 1, MOST_LISTED_LENGTH)
    check_state(state, len(medium))
    return walks(medium.table(), length, state)


def parts(medium, length=1):
    """The parts for ways of so many signs, sorted lists of states."""
    check_medium(medium)
    check_length(length, 1, MOST_LENGTH)
    closed = closed_reach(reached_after(medium.leads(), length))
    found = [part_of(closed, state) for state in range(len(closed))]
    # A part is found from each of its states; it is listed once, by the first of them.
    return [part for state, part in enumerate(found) if part and part[0] == state]
