"""Counts of rows, and rows by their numbers."""

from barredrows.basics import is_between
from barredrows.checks import MOST_LENGTH, check_length, check_row, check_state
from barredrows.errors import InvalidNumber, InvalidRow, TooMany
from barredrows.media import check_medium
from barredrows.tables import walked, walks

MOST_ROWS = 5000


def count(medium, length, state=0):
    """How many rows of so many signs can be walked from the state."""
    check_start(medium, length, state)
    return counts_to(medium.table(), length)[length][state]


def row_at(medium, length, number, state=0):
    """The row with this number among those of so many signs from the state."""
    check_start(medium, length, state)
    table = medium.table()
    counts = counts_to(table, length)
    if not is_between(number, 0, counts[length][state] - 1):
        raise InvalidNumber(number)
    row = ""
    for further in range(length - 1, -1, -1):
        sign, number = sign_at(table[state], counts[further], number)
        row += sign
        state = table[state][sign]
    return row


def number_of(medium, row, state=0):
    """The number of the row among those of its length from the state."""
    check_medium(medium)
    check_row(row)
    check_state(state, len(medium))
    table = medium.table()
    if len(row) > MOST_LENGTH or walked(table, row, state) is None:
        raise InvalidRow(row)
    counts = counts_to(table, len(row))
    number = 0
    for at, sign in enumerate(row):
        further = counts[len(row) - at - 1]
        number += sum([further[to] for before, to in table[state].items() if before < sign])
        state = table[state][sign]
    return number


def rows(medium, length, state=0):
    """The rows of so many signs from the state, one by one, in order."""
    if count(medium, length, state) > MOST_ROWS:
        raise TooMany("rows", MOST_ROWS)
    for row, _ in walks(medium.table(), length, state):
        yield row


def check_start(medium, length, state):
    check_medium(medium)
    check_length(length, 0, MOST_LENGTH)
    check_state(state, len(medium))


def counts_to(table, length):
    """For 0, 1 .. length signs, how many rows of so many signs can be walked from each state."""
    counts = [[1 for _ in table]]
    for _ in range(length):
        last = counts[-1]
        counts.append([sum([last[to] for to in leading.values()]) for leading in table])
    return counts


def sign_at(leading, further, number):
    """The first sign of the row with this number, and the number of its rest, by the counts of the rests."""
    for sign in sorted(leading):
        many = further[leading[sign]]
        if number < many:
            break
        number -= many
    return sign, number
