"""Marks: rows without a mark, and the least rows by which a mark is joined to them."""

from barredrows.basics import is_row
from barredrows.checks import is_short_row
from barredrows.errors import InvalidMark, InvalidRow
from barredrows.media import Medium, check_medium

MOST_IN_MARK = 8


def clear_rows(medium, mark):
    """The medium of the clear rows that can go on for ever as clear rows."""
    check_medium(medium)
    check_mark(mark)
    # A mark with other signs stands nowhere, but only rows of the same signs can be barred.
    if not all([sign in medium.signs for sign in mark]):
        return medium
    return medium & Medium.barring(medium.many, mark)


def join(medium, mark, row):
    """The least row between the clear row and the mark, None if the mark cannot be joined."""
    check_medium(medium)
    check_mark(mark)
    if not is_short_row(row) or row not in medium or mark in row:
        raise InvalidRow(row)
    begin = (medium.walk(row, 0), begun_mark(mark, row))
    # Each state is met by the least row that leads there, with what has been begun of the mark.
    order = [(*begin, "")]
    met = {begin: True}
    at = 0
    while at < len(order):
        state, begun, added = order[at]
        at += 1
        if can_join(medium, mark, state, begun):
            return added
        for sign, further in clear_steps(medium, mark, state, begun):
            if further not in met:
                met[further] = True
                order.append((*further, added + sign))
    return None


def can_join(medium, mark, state, begun):
    """Whether the mark can be walked here, and stands at its end alone in what has been begun of it and itself."""
    return medium.walk(mark, state) is not None and (begun + mark).find(mark) == len(begun)


def clear_steps(medium, mark, state, begun):
    """The tuples of a sign that does not end the mark, and the state with what has then been begun of the mark."""
    ends = [(sign, medium.walk(sign, state)) for sign in medium.signs]
    return [
        (sign, (end, begun_mark(mark, begun + sign)))
        for sign, end in ends
        if end is not None and begun + sign != mark
    ]


def begun_mark(mark, row):
    """The longest end of the row that begins the mark."""
    ends = [row[at:] for at in range(max(len(row) - len(mark), 0), len(row) + 1)]
    return [end for end in ends if mark.startswith(end)][0]


def check_mark(mark):
    if not is_row(mark) or not 1 <= len(mark) <= MOST_IN_MARK:
        raise InvalidMark(mark)
