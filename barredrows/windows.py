"""Windows: how many blocks around a block tell its word, whatever the state."""

from barredrows.basics import is_between
from barredrows.checks import check_length, is_text
from barredrows.coders import check_coder, check_states
from barredrows.twins import (
    groups_of,
    most_steps,
    pairs_further,
    sources_of,
    twin_steps,
    words_along,
)

MOST_AROUND = 5000
# More than any number of blocks that is asked for, and than any number of steps without an end.
ENDLESS = 10000


def has_window(coder, behind, ahead):
    """Whether so many blocks behind and ahead of a block tell its word."""
    check_coder(coder)
    check_length(behind, 0, MOST_AROUND)
    check_length(ahead, 0, MOST_AROUND)
    check_states(coder)
    return not any([deep >= behind and high >= ahead for deep, high in unsure_steps(coder)])


def window(coder):
    """The least window, None if there is none."""
    check_coder(coder)
    check_states(coder)
    unsure = unsure_steps(coder)
    ahead = max([high + 1 for deep, high in unsure if deep == ENDLESS], default=0)
    if ahead > ENDLESS:
        return None
    # No endless steps lead to a step behind which so many follow, or ahead would be greater.
    behind = max([deep + 1 for deep, high in unsure if high >= ahead], default=0)
    return behind, ahead


def endless_runs(coder):
    """Endless runs, None if there is a window."""
    check_coder(coder)
    check_states(coder)
    groups = groups_of(coder)
    sources = sources_of(groups)
    deep = most_steps(sources, groups)
    high = most_steps(groups, sources)
    for pair in pairs_once(len(coder)):
        if pair not in deep:
            for further, words in twin_steps(groups, pair):
                if words[0] != words[1] and further not in high:
                    back, past = path_and_ring(sources, deep, pair)
                    path, future = path_and_ring(groups, high, further)
                    return runs_along(groups, past[::-1], back[::-1], words, path, future)
    return None


def is_endless_runs(coder, value):
    """Whether any value is endless runs of the coder."""
    check_coder(coder)
    check_states(coder)
    if not isinstance(value, tuple) or len(value) != 2 or not all([is_run(run, coder) for run in value]):
        return False
    one, other = value
    if not one[1] or not one[3] or list(one[2]) == list(other[2]):
        return False
    blocks = run_blocks(one, coder)
    return blocks is not None and blocks == run_blocks(other, coder)


def unsure_steps(coder):
    """How many steps can be taken at most to and from the steps with two different words and the same block.

    Of the steps from each pair of states only those are told from which most steps can be taken.
    """
    groups = groups_of(coder)
    sources = sources_of(groups)
    deep = most_steps(sources, groups)
    high = most_steps(groups, sources)
    found = [(deep.get(pair, ENDLESS), highest(groups, high, pair)) for pair in pairs_once(len(coder))]
    return [(steps, further) for steps, further in found if further is not None]


def pairs_once(size):
    """The pairs of states; two states make one pair only, as both texts are followed alike."""
    return [(one, other) for one in range(size) for other in range(one, size)]


def highest(groups, high, pair):
    """How many steps can be taken at most behind two different words from the pair, None if there are none."""
    best = None
    for further, words in twin_steps(groups, pair):
        if words[0] != words[1]:
            best = max(best or 0, high.get(further, ENDLESS))
            if best == ENDLESS:
                return best
    return best


def path_and_ring(steps, most, start):
    """The pairs of steps from a start with endless ones to some pair, and those from this one back to it."""
    pairs = [start]
    places = {}
    while pairs[-1] not in places:
        places[pairs[-1]] = len(pairs) - 1
        pairs.append([pair for pair in pairs_further(steps, pairs[-1]) if pair not in most][0])
    ring = places[pairs[-1]]
    return pairs[:ring + 1], pairs[ring:]


def runs_along(groups, past, back, words, path, future):
    """The endless runs that lead around the past, to the step with these words and on around the future."""
    ring, ring_beside = words_along(groups, past)
    begin, begin_beside = words_along(groups, back)
    end, end_beside = words_along(groups, path)
    last, last_beside = words_along(groups, future)
    state, beside = past[0]
    return (
        (state, ring, [*begin, words[0], *end], last),
        (beside, ring_beside, [*begin_beside, words[1], *end_beside], last_beside),
    )


def is_run(value, coder):
    """Whether any value is a tuple of a state and three texts."""
    if not isinstance(value, tuple) or len(value) != 4 or not is_between(value[0], 0, len(coder) - 1):
        return False
    return all([is_text(text, coder.rate.size) for text in value[1:]])


def run_blocks(run, coder):
    """The blocks of the three texts, None if they do not lead around, on, and around again."""
    state, past, text, future = run
    around, begin = coder.follow(past, state)
    blocks, end = coder.follow(text, begin)
    again, last = coder.follow(future, end)
    return [around, blocks, again] if begin == state and last == end else None
