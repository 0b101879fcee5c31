"""Rows that part two media."""

from barredrows.media import check_media


def parting(one, other):
    """The least row that exactly one of two media allows, None if they are equal."""
    check_media(one, other)
    first, second = one.table(), other.table()
    # Pairs of states are met by their least rows, so the first row that parts is the least one.
    order = [(0, 0, "")]
    met = {(0, 0): True}
    at = 0
    while at < len(order):
        state, beside, row = order[at]
        at += 1
        for sign in one.signs:
            if (sign in first[state]) != (sign in second[beside]):
                return row + sign
            if sign in first[state]:
                pair = (first[state][sign], second[beside][sign])
                if pair not in met:
                    met[pair] = True
                    order.append((*pair, row + sign))
    return None
