"""Window readers, and the words that a damaged sign spoils."""

from barredrows.basics import ALL_SIGNS, is_between
from barredrows.checks import check_blocks, check_sign
from barredrows.coders import check_coder
from barredrows.errors import InvalidNumber, NoWindow
from barredrows.twins import groups_of
from barredrows.windows import window


class WindowReader:
    """A reader who tells each word from the blocks around its own."""

    def __init__(self, coder):
        check_coder(coder)
        least = window(coder)
        if least is None:
            raise NoWindow()
        self._source = coder
        self._behind, self._ahead = least
        self._groups = groups_of(coder)

    @property
    def source(self):
        return self._source

    @property
    def behind(self):
        return self._behind

    @property
    def ahead(self):
        return self._ahead

    @property
    def spread(self):
        """How many neighbouring words a damaged sign spoils at most."""
        return self._behind + 1 + self._ahead

    def __call__(self, blocks):
        check_blocks(blocks, self._source.rate.q)
        to_each = steps_to_states(self._groups, blocks)
        from_each = steps_from_states(self._groups, blocks)
        return [self._word(block, to_each[at], from_each[at + 1]) for at, block in enumerate(blocks)]

    def _word(self, block, to_each, from_each):
        """The word of a block, by the numbers of the blocks that lead to, and on from, each state around it."""
        for state, group in enumerate(self._groups):
            if to_each[state] >= self._behind:
                for to, words in group.get(block, {}).items():
                    if from_each[to] >= self._ahead:
                        return words[0]
        return None


def damaged(blocks, place, sign):
    """The blocks with this sign at the place, which is counted through all of them."""
    if not is_between(place, 0, sum([len(block) for block in blocks]) - 1):
        raise InvalidNumber(place)
    check_sign(sign, ALL_SIGNS)
    found = []
    begin = 0
    for block in blocks:
        end = begin + len(block)
        found.append(block[:place - begin] + sign + block[place - begin + 1:] if begin <= place < end else block)
        begin = end
    return found


def spoiled(coder, text, place, sign):
    """The positions of the words that a window reader tells otherwise if the sign at the place is changed."""
    check_coder(coder)
    blocks = coder.blocks(text)
    changed = damaged(blocks, place, sign)
    reader = WindowReader(coder)
    return [at for at, (word, other) in enumerate(zip(reader(blocks), reader(changed))) if word != other]


def steps_to_states(groups, blocks):
    """For each place between the blocks, how many of those ahead of it lead at most, from any state, to each state."""
    found = [[0 for _ in groups]]
    for block in blocks:
        further = [0 for _ in groups]
        for state, steps in enumerate(found[-1]):
            for to in groups[state].get(block, {}):
                further[to] = max(further[to], steps + 1)
        found.append(further)
    return found


def steps_from_states(groups, blocks):
    """For each place between the blocks, how many of those behind it can be followed at most from each state."""
    found = [[0 for _ in groups]]
    for block in blocks[::-1]:
        last = found[-1]
        found.append([max([last[to] + 1 for to in group.get(block, {})], default=0) for group in groups])
    return found[::-1]
