"""Counts of rows, and rows by their numbers."""

from barredrows.basics import is_between
from barredrows.checks import MOST_LENGTH, check_length, check_row, check_state
from barredrows.errors import InvalidNumber, InvalidRow, TooMany
from barredrows.media import check_medium
from barredrows.steps import all_sums, ends_sums, number_of_way, numbered_way
from barredrows.tables import walks

MOST_ROWS = 5000


def count(medium, length, state=0):
    """How many rows of so many signs can be walked from the state."""
    check_start(medium, length, state)
    return ends_sums(medium.leads(), length, ones(medium))[state]


def row_at(medium, length, number, state=0):
    """The row with this number among those of so many signs from the state."""
    check_start(medium, length, state)
    leads = medium.leads()
    counts = all_sums(leads, length, ones(medium))
    if not is_between(number, 0, counts[length][state] - 1):
        raise InvalidNumber(number)
    row, _ = numbered_way(leads, counts, number, state)
    return row


def number_of(medium, row, state=0):
    """The number of the row among those of its length from the state."""
    check_medium(medium)
    check_row(row)
    check_state(state, len(medium))
    if len(row) > MOST_LENGTH or medium.walk(row, state) is None:
        raise InvalidRow(row)
    leads = medium.leads()
    return number_of_way(leads, all_sums(leads, len(row), ones(medium)), row, state)


def rows(medium, length, state=0):
    """The rows of so many signs from the state, one by one, in order."""
    if count(medium, length, state) > MOST_ROWS:
        raise TooMany("rows", MOST_ROWS)
    for row, _ in walks(medium.table(), length, state):
        yield row


def check_start(medium, length, state):
    check_medium(medium)
    check_length(length, 0, MOST_LENGTH)
    check_state(state, len(medium))


def ones(medium):
    """The number 1 for each state, so that sums are counts."""
    return [1 for _ in range(len(medium))]
