"""Pieces of weights, which are split until they are even and make a coder."""

from barredrows.basics import is_between
from barredrows.checks import is_list
from barredrows.coders import Coder
from barredrows.errors import InvalidChoice, InvalidNumber, NotEven, TooMany
from barredrows.papers import check_weights
from barredrows.reach import bits_of, closed_reach, part_of, reached_after, states_of
from barredrows.steps import ends_sums
from barredrows.tables import walks

MOST_IN_ALL = 64


class Pieces:
    """States with weights and entries, as they come from weights by splits."""

    def __init__(self, medium, rate, numbers, states, entries):
        self._medium = medium
        self._rate = rate
        self._numbers = list(numbers)
        self._states = list(states)
        self._entries = [list(found) for found in entries]

    @classmethod
    def of(cls, weights):
        """The pieces of the weights."""
        check_weights(weights)
        if weights.total > MOST_IN_ALL:
            raise TooMany("weight", MOST_IN_ALL)
        medium, rate, numbers = weights.medium, weights.rate, weights.numbers()
        states = closed_states(weights)
        # No way leads from the set to other states with weights, so theirs are not among the sums.
        sums = ends_sums(medium.leads(), rate.q, numbers)
        if sum([sums[state] for state in states]) > Coder.MOST_ENTRIES:
            raise TooMany("entries", Coder.MOST_ENTRIES)
        table = medium.table()
        entries = [
            [(way, states.index(end)) for way, end in walks(table, rate.q, state) if end in states]
            for state in states
        ]
        return cls(medium, rate, [numbers[state] for state in states], states, entries)

    @property
    def medium(self):
        return self._medium

    @property
    def rate(self):
        return self._rate

    @property
    def is_even(self):
        """Whether all weights are equal."""
        return min(self._numbers) == max(self._numbers)

    def numbers(self):
        """The list of the weights of the pieces."""
        return list(self._numbers)

    def states(self):
        """The list of the states of the pieces."""
        return list(self._states)

    def entries(self, piece):
        """The list of the entries of the piece."""
        check_piece(piece, len(self))
        return list(self._entries[piece])

    def split_at(self, piece, chosen):
        """The pieces that come from these by the split at the piece by the choice."""
        check_piece(piece, len(self))
        weight = self._chosen_weight(piece, chosen)
        if weight is None:
            raise InvalidChoice(chosen)
        last = len(self)
        numbers = [*self._numbers, self._numbers[piece] - weight]
        numbers[piece] = weight
        own = self._entries[piece]
        marks = {at: True for at in chosen}
        entries = [*self._entries, [entry for at, entry in enumerate(own) if at not in marks]]
        entries[piece] = [own[at] for at in chosen]
        entries = [with_both(found, piece, last) for found in entries]
        return Pieces(self._medium, self._rate, numbers, [*self._states, self._states[piece]], entries)

    def choice(self):
        """A choice at a piece of the greatest weight, None if the pieces are even."""
        greatest = max(self._numbers)
        for piece, weight in enumerate(self._numbers):
            if weight == greatest:
                weights = [self._numbers[number] for _, number in self._entries[piece]]
                # The entries to the pieces of the least weights: fewer than all of them have a sum that is divided.
                order = sorted(range(len(weights)), key=lambda at: weights[at])[:self._rate.size]
                if weights[order[0]] < greatest:
                    return piece, divided_choice(order, weights, self._rate.size)
        return None

    def evened(self):
        """Even pieces that come from these by splits."""
        pieces = self
        found = pieces.choice()
        while found is not None:
            piece, chosen = found
            pieces = pieces.split_at(piece, chosen)
            found = pieces.choice()
        return pieces

    def coder(self, piece=0):
        """The coder of even pieces that begins in the piece."""
        check_piece(piece, len(self))
        if not self.is_even:
            raise NotEven()
        order = [piece] + [other for other in range(len(self)) if other != piece]
        places = {other: place for place, other in enumerate(order)}
        codes = [
            [(way, places[number]) for way, number in self._entries[other][:self._rate.size]]
            for other in order
        ]
        return Coder(self._rate, codes, self._medium.least_row(self._states[piece]))

    def _chosen_weight(self, piece, chosen):
        """The weight that the piece keeps by the choice, None if the value is no choice at it."""
        entries = self._entries[piece]
        if not is_list(chosen) or not all([is_between(at, 0, len(entries) - 1) for at in chosen]):
            return None
        if not all([one < other for one, other in zip(chosen, chosen[1:])]):
            return None
        total = sum([self._numbers[entries[at][1]] for at in chosen])
        weight, rest = divmod(total, self._rate.size)
        return weight if rest == 0 and 1 <= weight < self._numbers[piece] else None

    def __len__(self):
        return len(self._numbers)

    def __eq__(self, other):
        if not isinstance(other, Pieces) or self._medium != other._medium or self._rate != other._rate:
            return False
        if self._numbers != other._numbers or self._states != other._states:
            return False
        return self._entries == other._entries


def closed_states(weights):
    """The first set of states with weights that lead to one another and, with weights, to no others."""
    weighted = [state for state, number in enumerate(weights.numbers()) if number > 0]
    reached = reached_after(weights.medium.leads(), weights.rate.q)
    closed = closed_reach([bits & bits_of(weighted) for bits in reached])
    found = [state for state in weighted if part_of(closed, state) == states_of(closed[state])]
    return part_of(closed, found[0])


def with_both(entries, piece, last):
    """The entries, each one to the piece followed by the same way to the last piece."""
    found = []
    for way, number in entries:
        found.append((way, number))
        if number == piece:
            found.append((way, last))
    return found


def divided_choice(order, weights, size):
    """The sorted positions of a run in this order whose weights have a sum that size divides."""
    begins = {0: 0}
    total = 0
    for at, position in enumerate(order):
        total = (total + weights[position]) % size
        # Of so many sums and the sum 0, of no weights, two are equal but for multiples of size.
        if total in begins:
            return sorted(order[begins[total]:at + 1])
        begins[total] = at + 1
    return None


def check_piece(piece, many):
    if not is_between(piece, 0, many - 1):
        raise InvalidNumber(piece)
