"""How far a reader must look ahead, by following two texts with the same blocks at a time."""

from barredrows.basics import is_between
from barredrows.checks import check_length, is_text
from barredrows.coders import check_coder, check_states
from barredrows.graphs import furthest, furthest_path, heights, path_and_ring, written_on

MOST_AHEAD = 5000


def look_ahead(coder):
    """The least number of further blocks that is enough, None if none is."""
    check_coder(coder)
    check_states(coder)
    begins, after = blind_steps(coder)
    high = heights(after)
    if not all([pair in high for pair in begins]):
        return None
    return max([high[pair] + 1 for pair in begins], default=0)


def is_enough(coder, ahead):
    """Whether so many further blocks are enough to tell a word."""
    check_coder(coder)
    check_length(ahead, 0, MOST_AHEAD)
    least = look_ahead(coder)
    return least is not None and least <= ahead


def blind_texts(coder, ahead):
    """A state and two texts from it with the same blocks, but other first words; None if ahead is enough."""
    check_coder(coder)
    check_length(ahead, 0, MOST_AHEAD)
    check_states(coder)
    begins, after = blind_steps(coder)
    high = heights(after)
    # Endless pairs are higher than all others.
    if not any([high.get(pair, ahead) >= ahead for pair in begins]):
        return None
    begin = furthest(begins, high)
    state, one, other = begins[begin]
    first, second = words_on(after, furthest_path(after, high, begin, ahead))
    return state, [one, *first], [other, *second]


def blind_ring(coder):
    """A blind ring, None if there is a look-ahead."""
    check_coder(coder)
    check_states(coder)
    begins, after = blind_steps(coder)
    high = heights(after)
    endless = [pair for pair in begins if pair not in high]
    if not endless:
        return None
    path, ring = path_and_ring(after, high, endless[0])
    state, one, other = begins[endless[0]]
    first, second = words_on(after, path)
    again, beside = words_on(after, ring)
    return state, [one, *first], [other, *second], again, beside


def is_blind_ring(coder, value):
    """Whether any value is a blind ring of the coder."""
    check_coder(coder)
    check_states(coder)
    if not isinstance(value, tuple) or len(value) != 5 or not is_between(value[0], 0, len(coder) - 1):
        return False
    state, *texts = value
    if not all([is_text(text, coder.rate.size) for text in texts]):
        return False
    one, other, first, second = texts
    if not one or not other or one[0] == other[0] or not first:
        return False
    blocks, begin = coder.follow(one, state)
    twins, beside = coder.follow(other, state)
    if blocks != twins:
        return False
    blocks, end = coder.follow(first, begin)
    twins, end_beside = coder.follow(second, beside)
    return blocks == twins and end == begin and end_beside == beside


def blind_steps(coder):
    """The pairs of states behind two different words with the same block, and all steps of same blocks from there on.

    Each pair of the first kind has a state and the two words from it; each step has two words. Where two texts have
    come to one state, they can go on alike for ever: then the steps from other pairs may be left out.
    """
    codes = coder.codes()
    groups = [ends_by_block(entries) for entries in codes]
    begins = blind_begins(codes)
    order = list(begins)
    met = {pair: True for pair in order}
    after = {}
    endless = any([one == other for one, other in order])
    at = 0
    while at < len(order):
        one, other = order[at]
        at += 1
        if one == other:
            _, to = codes[one][0]
            steps = {(to, to): (0, 0)}
        else:
            steps = {} if endless else same_steps(groups[one], groups[other])
        after[one, other] = steps
        for pair in steps:
            endless = endless or pair[0] == pair[1]
            if pair not in met:
                met[pair] = True
                order.append(pair)
    return begins, after


def blind_begins(codes):
    """For the pairs behind two different words with the same block a state and the words."""
    begins = {}
    for state, entries in enumerate(codes):
        before = {}
        for word, (block, to) in enumerate(entries):
            same = before.setdefault(block, [])
            for other, other_to in same:
                begins.setdefault((other_to, to), (state, other, word))
            same.append((word, to))
    return begins


def ends_by_block(entries):
    """For each block the next states, each with the first word that leads there with this block."""
    found = {}
    for word, (block, to) in enumerate(entries):
        found.setdefault(block, {}).setdefault(to, word)
    return found


def same_steps(first, second):
    """The steps from a pair of states with the same blocks, from what there is for each block."""
    return {
        (to, beside): (one, other)
        for block in first if block in second
        for to, one in first[block].items()
        for beside, other in second[block].items()
    }


def words_on(after, nodes):
    """The words of both texts on these steps."""
    words = written_on(after, nodes)
    return [one for one, _ in words], [other for _, other in words]
