"""Readers of coders with a look-ahead: of whole rows, and of one block after another."""

from barredrows.ahead import look_ahead
from barredrows.basics import is_row
from barredrows.checks import MOST_IN_TEXT, check_block, check_text
from barredrows.coders import blocks_in, check_coder
from barredrows.errors import Lost, NoLookAhead, TooMany
from barredrows.twins import groups_of


class Reader:
    """A reader who gets the blocks of a coder one by one."""

    def __init__(self, coder):
        check_coder(coder)
        self._ahead = known_ahead(coder)
        self._source = coder
        self._groups = groups_of(coder)
        # How many blocks came, the words that were returned, and for each state to which a text with these blocks
        # leads the further words of this text. All this is never changed, only replaced, so that it can be kept.
        self._now = (0, [], {0: []})
        self._kept = self._now

    @property
    def source(self):
        return self._source

    @property
    def pending(self):
        """How many blocks came whose words were not returned yet."""
        return self._now[0] - len(self._now[1])

    def words(self):
        """The list of the words that were returned."""
        return list(self._now[1])

    def copy(self):
        """Another Reader that got the same blocks."""
        twin = Reader(self._source)
        twin._now = self._now
        return twin

    def __call__(self, block):
        check_block(block, self._source.rate.q)
        came, words, texts = self._now
        texts = longer_texts(self._groups, texts, block)
        if not texts:
            raise Lost(came)
        told = []
        if self.pending == self._ahead:
            # By now all texts have the same first word.
            told = [text[0] for text in texts.values()][:1]
            texts = {end: text[1:] for end, text in texts.items()}
        self._now = (came + 1, [*words, *told], texts)
        return told

    def __enter__(self):
        self._kept = self._now
        return self

    def __exit__(self, kind, value, trace):
        self._now = self._kept


def tried_reader(reader, action):
    """What action returns for the reader, which is then as it was."""
    with reader as held:
        return action(held)


def closed(coder, text):
    """The row of the text followed by as many words 0 as the reader looks ahead."""
    check_coder(coder)
    check_text(text, coder.rate.size)
    whole = [*text, *[0 for _ in range(known_ahead(coder))]]
    if len(whole) > MOST_IN_TEXT:
        raise TooMany("words", MOST_IN_TEXT)
    return coder(whole)


def read_closed(coder, value):
    """The text whose closed row the value is, None if there is none."""
    check_coder(coder)
    ahead = known_ahead(coder)
    blocks = blocks_in(coder, value) if is_row(value) else None
    if blocks is None or not ahead <= len(blocks) <= MOST_IN_TEXT:
        return None
    groups = groups_of(coder)
    texts = {0: []}
    for block in blocks:
        texts = longer_texts(groups, texts, block)
    many = len(blocks) - ahead
    # Two such texts would be the same up to the further words, and then as a whole.
    found = [text[:many] for text in texts.values() if not any(text[many:])]
    return found[0] if found else None


def longer_texts(groups, texts, block):
    """For each state to which the texts lead with a further block, the longer text.

    With a look-ahead there are no two texts with the same blocks that lead to the same state.
    """
    return {
        to: [*text, words[0]]
        for end, text in texts.items()
        for to, words in groups[end].get(block, {}).items()
    }


def known_ahead(coder):
    """The look-ahead of a coder that must have one."""
    ahead = look_ahead(coder)
    if ahead is None:
        raise NoLookAhead()
    return ahead
