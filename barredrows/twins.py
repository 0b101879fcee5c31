"""Two texts with the same blocks, followed at a time through pairs of states.

Groups have for each state of a coder a dict from its blocks to dicts from the next states to the words that lead there
with the block. Sources have for each state the same the other way round: the states from which the block leads there.
"""


def groups_of(coder):
    """The groups of a coder."""
    groups = []
    for entries in coder.codes():
        group = {}
        for word, (block, to) in enumerate(entries):
            group.setdefault(block, {}).setdefault(to, []).append(word)
        groups.append(group)
    return groups


def sources_of(groups):
    """The sources of the groups."""
    sources = [{} for _ in groups]
    for state, group in enumerate(groups):
        for block, ends in group.items():
            for to in ends:
                sources[to].setdefault(block, {}).setdefault(state, True)
    return sources


def pairs_further(steps, pair):
    """The pairs one step further than the pair, by groups, or one step back, by sources; some perhaps repeatedly."""
    first, second = steps[pair[0]], steps[pair[1]]
    return [
        (to, beside)
        for block in first if block in second
        for to in first[block]
        for beside in second[block]
    ]


def most_steps(steps, back):
    """How many steps can be taken at most from each pair, without the pairs from which there are endless ones.

    Steps are groups and back is sources, or the other way round.
    """
    states = range(len(steps))
    left = {(one, other): step_count(steps[one], steps[other]) for one in states for other in states}
    done = [pair for pair, many in left.items() if many == 0]
    most = {pair: 0 for pair in done}
    at = 0
    # Pairs are done in the order of their numbers, so the last one that a pair waits for has the greatest.
    while at < len(done):
        last = done[at]
        at += 1
        for pair in pairs_further(back, last):
            left[pair] -= 1
            if left[pair] == 0:
                most[pair] = most[last] + 1
                done.append(pair)
    return most


def step_count(first, second):
    """How many steps there are from a pair, by the dicts of its two states."""
    return sum([len(ends) * len(second[block]) for block, ends in first.items() if block in second])


def twin_steps(groups, pair):
    """The steps from a pair, one by one: the next pair and the two words, which differ if they can."""
    first, second = groups[pair[0]], groups[pair[1]]
    for block in first:
        for to, words in first[block].items():
            for beside, others in second.get(block, {}).items():
                yield (to, beside), word_pair(words, others)


def word_pair(words, others):
    """A word of each list, different ones if there are such."""
    if words[0] == others[0]:
        if len(words) > 1:
            return words[1], others[0]
        if len(others) > 1:
            return words[0], others[1]
    return words[0], others[0]


def words_between(groups, pair, further):
    """Two words that lead with the same block from a pair to the next one."""
    for to, words in twin_steps(groups, pair):
        if to == further:
            return words
    return None


def words_along(groups, pairs):
    """The two texts that lead from each of these pairs to the next one."""
    words = [words_between(groups, pair, further) for pair, further in zip(pairs, pairs[1:])]
    return [one for one, _ in words], [other for _, other in words]
