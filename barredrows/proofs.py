"""Carries and relations: lists that show that a coder fits a medium, or that two coders write the same."""

from barredrows.basics import is_between
from barredrows.checks import is_list
from barredrows.coders import followed_in


def found_carry(medium, coder):
    """A carry of the coder for the medium, None if it does not fit."""
    text, pairs = followed_in(medium, coder)
    if text is not None:
        return None
    carry = [[] for _ in range(len(coder))]
    for state, place in sorted(pairs):
        carry[state].append(place)
    return carry


def is_carry(medium, coder, value):
    """Whether any value is a carry of the coder for the medium."""
    if not is_list(value) or len(value) != len(coder):
        return False
    if not all([is_rising(places, len(medium)) for places in value]):
        return False
    # A row that cannot be walked leads to None, which is in no list.
    if medium.walk(coder.lead, 0) not in value[0]:
        return False
    for entries, places in zip(coder.codes(), value):
        for block, to in entries:
            if not all([medium.walk(block, place) in value[to] for place in places]):
                return False
    return True


def is_rising(value, size):
    """Whether any value is a sorted list of different ones of so many states."""
    if not is_list(value) or not all([is_between(place, 0, size - 1) for place in value]):
        return False
    return all([one < other for one, other in zip(value, value[1:])])


def found_relation(one, other):
    """A relation of two coders with one rate, None if they do not write the same."""
    if one.lead != other.lead:
        return None
    first, second = one.codes(), other.codes()
    order = [(0, 0)]
    met = {(0, 0): True}
    at = 0
    while at < len(order):
        state, beside = order[at]
        at += 1
        for (block, to), (twin, further) in zip(first[state], second[beside]):
            if block != twin:
                return None
            if (to, further) not in met:
                met[to, further] = True
                order.append((to, further))
    return sorted(order)


def is_relation(one, other, value):
    """Whether any value is a relation of two coders with one rate."""
    if one.lead != other.lead or not is_list(value):
        return False
    if not all([is_pair(pair, len(one), len(other)) for pair in value]):
        return False
    if not all([pair < further for pair, further in zip(value, value[1:])]):
        return False
    related = {pair: True for pair in value}
    if (0, 0) not in related:
        return False
    first, second = one.codes(), other.codes()
    return all([is_kept(first[state], second[beside], related) for state, beside in value])


def is_pair(value, size, other_size):
    """Whether any value is a tuple of one of so many states and one of so many others."""
    if not isinstance(value, tuple) or len(value) != 2:
        return False
    return is_between(value[0], 0, size - 1) and is_between(value[1], 0, other_size - 1)


def is_kept(entries, others, related):
    """Whether the blocks of these entries are the same, and their next states related."""
    return all([
        block == twin and (to, further) in related
        for (block, to), (twin, further) in zip(entries, others)
    ])
