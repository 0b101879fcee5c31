"""Sharings: slots given to pairs, and the coders that they make, whose rows are read from their ends."""

from barredrows.basics import is_between, is_row
from barredrows.checks import MOST_IN_TEXT, check_state, check_text, is_list
from barredrows.coders import Coder
from barredrows.errors import InvalidNumber, InvalidSharing, InvalidState, TooMany
from barredrows.papers import check_weights
from barredrows.steps import all_sums, number_of_way, numbered_way, one_sum

MOST_SHARED = 64


class Sharing:
    """A slot for each pair and each word, no slot given twice."""

    def __init__(self, weights, shares):
        check_weights(weights)
        check_shares(weights, shares)
        check_entries(weights)
        self._weights = weights
        self._shares = [[list(slots) for slots in pairs] for pairs in shares]
        self._begin = [state for state, number in enumerate(weights.numbers()) if number > 0][0]
        self._counts = tail_counts(weights)
        self._givers = givers_of(self._shares)

    @property
    def weights(self):
        return self._weights

    def shares(self):
        """The lists of the slots of each pair of each state."""
        return [[list(slots) for slots in pairs] for pairs in self._shares]

    def coder(self, state=None):
        """The coder that begins in the first pair of the state, or of the least state that has pairs."""
        begin = self._begin if state is None else state
        if not is_between(begin, 0, len(self._shares) - 1) or not self._shares[begin]:
            raise InvalidState(state)
        medium = self._weights.medium
        order = [begin] + [other for other in range(len(self._shares)) if other != begin]
        places = {}
        for home in order:
            for index in range(len(self._shares[home])):
                places[home, index] = len(places)
        codes = [
            [(way, places[medium.walk(way, first), number]) for way, number in slots]
            for first in order
            for slots in self._shares[first]
        ]
        return Coder(self._weights.rate, codes, medium.least_row(begin))

    def tail_length(self):
        """How many signs a tail has."""
        return len(self._counts) - 1

    def tail(self, state, number):
        """The tail of a pair, which tells its number."""
        check_state(state, len(self._shares))
        if not is_between(number, 0, self._weights[state] - 1):
            raise InvalidNumber(number)
        row, _ = numbered_way(self._weights.medium.leads(), self._counts, number, state)
        return row

    def written(self, text):
        """The row of the text, and the tail of the pair to which it leads."""
        check_text(text, self._weights.rate.size)
        medium = self._weights.medium
        row = medium.least_row(self._begin)
        state, number = self._begin, 0
        for word in text:
            way, number = self._shares[state][number][word]
            state = medium.walk(way, state)
            row += way
        return row + self.tail(state, number)

    def read_back(self, value):
        """The text whose written row the value is, None if there is none."""
        if not is_row(value):
            return None
        ways = self._ways_of(value)
        if ways is None:
            return None
        states = self._states_of(ways)
        if states is None:
            return None
        return self._text_of(ways, states, value[len(value) - self.tail_length():])

    def _ways_of(self, row):
        """The ways between the lead and the tail, None if the row has no such form."""
        lead = self._weights.medium.least_row(self._begin)
        length = self._weights.rate.q
        inner = len(row) - len(lead) - self.tail_length()
        if not row.startswith(lead) or not is_between(inner, 0, MOST_IN_TEXT * length) or inner % length != 0:
            return None
        return [row[at:at + length] for at in range(len(lead), len(lead) + inner, length)]

    def _states_of(self, ways):
        """The states between the ways, None if the ways cannot be walked one after another."""
        states = [self._begin]
        for way in ways:
            end = self._weights.medium.walk(way, states[-1])
            if end is None:
                return None
            states.append(end)
        return states

    def _text_of(self, ways, states, tail):
        """The text of these ways, found from the end, None if there is none."""
        medium = self._weights.medium
        if medium.walk(tail, states[-1]) is None:
            return None
        number = number_of_way(medium.leads(), self._counts, tail, states[-1])
        words = []
        for at in range(len(ways) - 1, -1, -1):
            slot = (states[at], ways[at], number)
            if slot not in self._givers:
                return None
            number, word = self._givers[slot]
            words.append(word)
        # Without any way the number may be one of no pair; with some, it must lead back to the first pair.
        return words[::-1] if number == 0 else None

    def __eq__(self, other):
        return isinstance(other, Sharing) and self._weights == other._weights and self._shares == other._shares


def shared(weights):
    """A sharing of the weights, the slots being given in their order."""
    check_weights(weights)
    if weights.total > MOST_SHARED:
        raise TooMany("weight", MOST_SHARED)
    check_entries(weights)
    leads = weights.medium.leads()
    size = weights.rate.size
    sums = all_sums(leads, weights.rate.q, weights.numbers())
    return Sharing(weights, [
        [
            [numbered_way(leads, sums, number * size + word, state) for word in range(size)]
            for number in range(weights[state])
        ]
        for state in range(len(weights))
    ])


def tail_counts(weights):
    """For 0, 1 .. signs, how many rows there are, up to the first length with enough rows for each weight."""
    leads = weights.medium.leads()
    counts = [[1 for _ in range(len(weights))] + [0]]
    while not all([number <= many for number, many in zip(weights.numbers(), counts[-1])]):
        counts.append(one_sum(leads, counts[-1]))
    return counts


def givers_of(shares):
    """The number of the pair and the word to which each slot of each state is given."""
    return {
        (state, way, end): (number, word)
        for state, pairs in enumerate(shares)
        for number, slots in enumerate(pairs)
        for word, (way, end) in enumerate(slots)
    }


def check_entries(weights):
    if weights.total * weights.rate.size > Coder.MOST_ENTRIES:
        raise TooMany("entries", Coder.MOST_ENTRIES)


def check_shares(weights, shares):
    if not is_list(shares) or len(shares) != len(weights):
        raise InvalidSharing(None)
    numbers = weights.numbers()
    for state, pairs in enumerate(shares):
        if not is_share(weights, numbers, state, pairs):
            raise InvalidSharing(state)


def is_share(weights, numbers, state, pairs):
    """Whether pairs is a list of slots, none of them twice, for each pair and each word of the state."""
    if not is_list(pairs) or len(pairs) != numbers[state]:
        return False
    if not all([is_list(slots) and len(slots) == weights.rate.size for slots in pairs]):
        return False
    given = [slot for slots in pairs for slot in slots]
    if not all([is_slot(slot, weights, numbers, state) for slot in given]):
        return False
    return len(set(given)) == len(given)


def is_slot(value, weights, numbers, state):
    """Whether any value is a slot of the state."""
    if not isinstance(value, tuple) or len(value) != 2:
        return False
    way, number = value
    if not is_row(way) or len(way) != weights.rate.q:
        return False
    end = weights.medium.walk(way, state)
    return end is not None and is_between(number, 0, numbers[end] - 1)
