"""Coders: tables that write a row for each text."""

from barredrows.basics import is_between
from barredrows.checks import check_row, check_state, check_text, check_word, is_block, is_list
from barredrows.errors import InvalidCoder, InvalidTable, TooMany
from barredrows.media import check_medium
from barredrows.papers import check_rate

MOST_FOLLOWED = 64


class Coder:
    """A table that has for each state and each word a block of signs and the next state."""

    MOST_ENTRIES = 2000

    def __init__(self, rate, codes, lead=""):
        check_rate(rate)
        check_codes(codes, rate)
        check_row(lead)
        if len(codes) * rate.size > self.MOST_ENTRIES:
            raise TooMany("entries", self.MOST_ENTRIES)
        self._rate = rate
        self._lead = lead
        self._codes = kept_codes(codes)

    @property
    def rate(self):
        return self._rate

    @property
    def lead(self):
        return self._lead

    def codes(self):
        """The code table."""
        return [list(entries) for entries in self._codes]

    def end(self, text, state=0):
        """The state to which the text leads from the state."""
        check_text(text, self._rate.size)
        check_state(state, len(self))
        _, end = self.follow(text, state)
        return end

    def blocks(self, text, state=0):
        """The list of the blocks of the text from the state."""
        check_text(text, self._rate.size)
        check_state(state, len(self))
        blocks, _ = self.follow(text, state)
        return blocks

    def spelled(self, text):
        """The signs of the row of the text, one by one."""
        row = self._lead + "".join(self.blocks(text))
        for sign in row:
            yield sign

    def follow(self, text, state):
        """The blocks and the end of a text of any length."""
        blocks = []
        for word in text:
            block, state = self._codes[state][word]
            blocks.append(block)
        return blocks, state

    def __call__(self, text):
        return self._lead + "".join(self.blocks(text))

    def __getitem__(self, at):
        state, word = at
        check_state(state, len(self))
        check_word(word, self._rate.size)
        return self._codes[state][word]

    def __len__(self):
        return len(self._codes)

    def __eq__(self, other):
        if not isinstance(other, Coder):
            return False
        return self._rate == other._rate and self._lead == other._lead and self._codes == other._codes

    def __repr__(self):
        return f"Coder({self._rate}, {len(self)})"

    def __iter__(self):
        raise TypeError("a Coder is not iterated over")


def misfit(medium, coder):
    """The least text whose row is not allowed, None if there is none."""
    check_medium(medium)
    check_coder(coder)
    text, _ = followed_in(medium, coder)
    return text


def fits(medium, coder):
    """Whether the rows of all texts are allowed."""
    return misfit(medium, coder) is None


def followed_in(medium, coder):
    """The least text whose row is not allowed, or None, and the list of the pairs of states that were met.

    Each pair has a state of the coder and the one of the medium to which the same text leads.
    """
    place = medium.walk(coder.lead, 0)
    if place is None:
        return [], []
    codes = coder.codes()
    # Pairs are met in the order of the least texts that lead to them.
    order = [(0, place)]
    met = {(0, place): None}
    at = 0
    while at < len(order):
        pair = order[at]
        at += 1
        for word, (block, to) in enumerate(codes[pair[0]]):
            further = (to, medium.walk(block, pair[1]))
            if further[1] is None:
                return [*text_to(met, pair), word], order
            if further not in met:
                met[further] = (pair, word)
                order.append(further)
    return None, order


def text_to(met, pair):
    """The text by which the pair was met."""
    words = []
    while met[pair] is not None:
        pair, word = met[pair]
        words.append(word)
    return words[::-1]


def row_of(coder, text):
    """The row of a text of any length."""
    blocks, _ = coder.follow(text, 0)
    return coder.lead + "".join(blocks)


def blocks_in(coder, row):
    """The blocks of which the row consists behind the lead, None if it does not begin so or has another length."""
    length = coder.rate.q
    begin = len(coder.lead)
    if not row.startswith(coder.lead) or (len(row) - begin) % length != 0:
        return None
    return [row[at:at + length] for at in range(begin, len(row), length)]


def kept_codes(codes):
    """The code table of the states to which texts lead, in the order of the least ones."""
    order = [0]
    places = {0: 0}
    at = 0
    while at < len(order):
        entries = codes[order[at]]
        at += 1
        for _, to in entries:
            if to not in places:
                places[to] = len(order)
                order.append(to)
    return [[(block, places[further]) for block, further in codes[old]] for old in order]


def is_entry(value, length, size):
    """Whether any value is a tuple of a row of so many signs and one of so many states."""
    if not isinstance(value, tuple) or len(value) != 2:
        return False
    return is_block(value[0], length) and is_between(value[1], 0, size - 1)


def check_codes(codes, rate):
    if not is_list(codes) or len(codes) == 0:
        raise InvalidTable(None)
    for position, entries in enumerate(codes):
        if not is_list(entries) or len(entries) != rate.size:
            raise InvalidTable(position)
        if not all([is_entry(entry, rate.q, len(codes)) for entry in entries]):
            raise InvalidTable(position)


def check_coder(coder):
    if not isinstance(coder, Coder):
        raise InvalidCoder(coder)


def check_states(coder):
    """Check that the coder has no more states than can be followed two at a time."""
    if len(coder) > MOST_FOLLOWED:
        raise TooMany("states", MOST_FOLLOWED)
