"""Coders that are judged: whether they lose something, and the weights that are derived from them."""

from barredrows.checks import check_row, is_text
from barredrows.coders import blocks_in, check_coder, check_states, misfit
from barredrows.errors import DoesNotFit, LosesSomething, TooMany
from barredrows.media import check_medium
from barredrows.papers import Weights
from barredrows.reach import bits_of, states_of
from barredrows.twins import groups_of, twin_steps

MOST_DERIVED = 10


def loses_nothing(coder):
    """Whether no two different texts have the same row and lead to the same state."""
    return clash(coder) is None


def clash(coder):
    """A clash with texts as short as possible, None if there is none."""
    check_coder(coder)
    check_states(coder)
    groups = groups_of(coder)
    # Pairs are met by texts as short as possible; those that lead to one state only are the same text twice.
    order = [(0, 0)]
    met = {(0, 0): None}
    at = 0
    while at < len(order):
        pair = order[at]
        at += 1
        for further, words in twin_steps(groups, pair):
            if further[0] == further[1] and (pair[0] != pair[1] or words[0] != words[1]):
                return texts_to(met, pair, words)
            if further not in met:
                met[further] = (pair, words)
                order.append(further)
    return None


def is_clash(coder, value):
    """Whether any value is a clash of the coder."""
    check_coder(coder)
    if not isinstance(value, tuple) or len(value) != 2:
        return False
    if not all([is_text(text, coder.rate.size) for text in value]):
        return False
    one, other = value
    return list(one) != list(other) and coder.follow(one, 0) == coder.follow(other, 0)


def still_open(coder, row):
    """How many texts have this row."""
    check_coder(coder)
    check_row(row)
    blocks = blocks_in(coder, row)
    if blocks is None:
        return 0
    groups = groups_of(coder)
    counts = {0: 1}
    for block in blocks:
        further = {}
        for state, many in counts.items():
            for to, words in groups[state].get(block, {}).items():
                further[to] = further.get(to, 0) + many * len(words)
        counts = further
    return sum(counts.values())


def derived(medium, coder):
    """The weights that are derived from a coder that fits the medium and loses nothing."""
    check_medium(medium)
    check_coder(coder)
    if len(coder) > MOST_DERIVED:
        raise TooMany("states", MOST_DERIVED)
    text = misfit(medium, coder)
    if text is not None:
        raise DoesNotFit(text)
    found = clash(coder)
    if found is not None:
        raise LosesSomething(found)
    return Weights(medium, coder.rate, most_open(medium, coder))


def most_open(medium, coder):
    """For each state of the medium the greatest number of texts that are still open at a row that leads there.

    As nothing is lost, these texts lead to different states, so that they are as many as the states.
    """
    groups = groups_of(coder)
    states = range(len(medium))
    blocks = [block for group in groups for block in group]
    ends = [{way: medium.walk(way, start) for way in blocks} for start in states]
    begin = (bits_of([0]), medium.walk(coder.lead, 0))
    order = [begin]
    met = {begin: True}
    after = {}
    numbers = [0 for _ in states]
    at = 0
    while at < len(order):
        bits, state = order[at]
        at += 1
        if bits not in after:
            after[bits] = all_after(groups, states_of(bits))
        numbers[state] = max(numbers[state], len(states_of(bits)))
        for block, further in after[bits].items():
            pair = (further, ends[state][block])
            if pair not in met:
                met[pair] = True
                order.append(pair)
    return numbers


def all_after(groups, states):
    """For each block the bits of the states to which it leads from these ones."""
    found = {}
    for state in states:
        for block, ends in groups[state].items():
            found[block] = found.get(block, 0) | bits_of(list(ends))
    return found


def texts_to(met, pair, words):
    """The two texts by which the pair was met, followed by these words."""
    one, other = [words[0]], [words[1]]
    while met[pair] is not None:
        pair, words = met[pair]
        one.append(words[0])
        other.append(words[1])
    return one[::-1], other[::-1]
