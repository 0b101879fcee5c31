"""Integers, signs and rows."""

from barredrows.errors import InvalidRow

ALL_SIGNS = "abcd"


def is_integer(value):
    """Whether any value is an INTEGER: an int that is no bool."""
    return isinstance(value, int) and not isinstance(value, bool)


def is_count(value):
    """Whether any value is an INTEGER of at least 0."""
    return is_integer(value) and value >= 0


def is_between(value, low, high):
    """Whether any value is an INTEGER from low to high."""
    return is_integer(value) and low <= value <= high


def is_sign(value, signs):
    """Whether any value is one of these signs."""
    return isinstance(value, str) and len(value) == 1 and value in signs


def is_row(value):
    """Whether any value is a row, of any length."""
    return isinstance(value, str) and all([sign in ALL_SIGNS for sign in value])


def is_ahead(one, other):
    """Whether the row one is ahead of the row other in the order of rows."""
    for row in (one, other):
        if not is_row(row):
            raise InvalidRow(row)
    return (len(one), one) < (len(other), other)
