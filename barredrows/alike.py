"""Coders that write the same, and the least texts that part others.

States are of one kind in a round if the same blocks are written from them for all texts of so many words and one more.
"""

from barredrows.coders import Coder, check_coder
from barredrows.errors import OtherRate
from barredrows.tables import numbered


def parting_text(one, other):
    """The least text that has different rows with both coders, None if they write the same."""
    check_coders(one, other)
    if one.lead != other.lead:
        return []
    start = len(one)
    codes = one.codes() + [[(block, to + start) for block, to in entries] for entries in other.codes()]
    rounds = [first_kinds(codes)]
    while rounds[-1][0] == rounds[-1][start]:
        finer = finer_kinds(codes, rounds[-1])
        # Each round only parts kinds, so an equal number of kinds means that none was parted.
        if max(finer) == max(rounds[-1]):
            return None
        rounds.append(finer)
    return least_parting(codes, rounds, start)


def write_same(one, other):
    """Whether each text has the same row with both coders."""
    return parting_text(one, other) is None


def merged(coder):
    """The coder with the fewest states that writes the same."""
    check_coder(coder)
    codes = coder.codes()
    kinds = first_kinds(codes)
    finer = finer_kinds(codes, kinds)
    while max(finer) > max(kinds):
        kinds = finer
        finer = finer_kinds(codes, kinds)
    firsts = [kinds.index(kind) for kind in range(max(kinds) + 1)]
    return Coder(coder.rate, [[(block, kinds[to]) for block, to in codes[state]] for state in firsts], coder.lead)


def first_kinds(codes):
    """A number for each state, the same one for states with the same blocks."""
    return numbered([tuple([block for block, _ in entries]) for entries in codes])


def finer_kinds(codes, kinds):
    """The kinds of the next round."""
    return numbered([(kind, *[kinds[to] for _, to in entries]) for kind, entries in zip(kinds, codes)])


def least_parting(codes, rounds, start):
    """The least text that parts the states 0 and start, which are of different kinds in the last round only."""
    state, beside = 0, start
    text = []
    for kinds in rounds[-2::-1]:
        word = first_unlike([kinds[to] for _, to in codes[state]], [kinds[to] for _, to in codes[beside]])
        text.append(word)
        state, beside = codes[state][word][1], codes[beside][word][1]
    return [*text, first_unlike([block for block, _ in codes[state]], [block for block, _ in codes[beside]])]


def first_unlike(one, other):
    """The first position where two lists differ."""
    return [at for at, (first, second) in enumerate(zip(one, other)) if first != second][0]


def check_coders(one, other):
    """Check two coders that must have the same rate."""
    check_coder(one)
    check_coder(other)
    if one.rate != other.rate:
        raise OtherRate(one.rate, other.rate)
