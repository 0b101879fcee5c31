"""Drafts: tables that are being made, with changes that can be taken back."""

from barredrows.basics import is_count, is_sign
from barredrows.checks import MOST_IN_TABLE, check_many, check_sign, check_state
from barredrows.errors import InvalidSigns, NothingToUndo, UnknownWay
from barredrows.media import Medium, check_medium


class Draft:
    """A table that is being made, at first without any sign."""

    def __init__(self, many):
        check_many(many)
        # The last step is what the Draft is now: its width, and a dict from tuples (state, sign) to states.
        # Steps and their list are never changed, only replaced, so that copies and Trials can share them.
        self._steps = [(many, {})]

    @property
    def width(self):
        return self._steps[-1][0]

    @width.setter
    def width(self, value):
        self.set_width(value)

    def set_width(self, value):
        """Assign the number of signs."""
        check_many(value)
        ways = self._ways()
        signs = Medium.LETTERS[:value]
        if not all([sign in signs for _, sign in ways]):
            raise InvalidSigns(value)
        self._step_to(value, ways)

    def put(self, state, sign, to):
        """Let the sign lead from the state to the state to, and return the Draft."""
        self[state, sign] = to
        return self

    def bar(self, state, sign):
        """Let the sign lead nowhere from the state."""
        if (state, sign) not in self:
            raise UnknownWay(state, sign)
        ways = self._ways()
        self._step_to(self.width, {place: ways[place] for place in ways if place != (state, sign)})

    def made(self):
        """The Medium of the table, as far as its states lead on or are led to."""
        ways = self._ways()
        # States that neither lead on nor are led to make no difference, so the others are numbered without them.
        states = sorted(set([0] + [state for state, _ in ways] + list(ways.values())))
        numbers = {state: number for number, state in enumerate(states)}
        table = [{} for _ in states]
        for (state, sign), to in ways.items():
            table[numbers[state]][sign] = numbers[to]
        return Medium(self.width, table)

    def undo(self):
        """Take back the last change that was not taken back."""
        if len(self._steps) == 1:
            raise NothingToUndo()
        self._steps = self._steps[:-1]

    def copy(self):
        """Another Draft with the same table and the same changes to take back."""
        twin = Draft(self.width)
        twin._steps = list(self._steps)
        return twin

    def _ways(self):
        return self._steps[-1][1]

    def _step_to(self, width, ways):
        self._steps = [*self._steps, (width, ways)]

    def __getitem__(self, at):
        state, sign = at
        if (state, sign) not in self:
            raise UnknownWay(state, sign)
        return self._ways()[state, sign]

    def __setitem__(self, at, worth):
        state, sign = at
        check_state(state, MOST_IN_TABLE)
        check_sign(sign, Medium.LETTERS[:self.width])
        check_state(worth, MOST_IN_TABLE)
        ways = self._ways()
        more = {place: ways[place] for place in ways}
        more[state, sign] = worth
        self._step_to(self.width, more)

    def __ior__(self, other):
        check_medium(other)
        table = other.table()
        ways = {(state, sign): to for state, leading in enumerate(table) for sign, to in leading.items()}
        self._step_to(other.many, ways)
        return self

    def __len__(self):
        return len(self._ways())

    def __contains__(self, x):
        # The kinds are asked first: a key is found by equal values, too, and True is equal to 1.
        if not isinstance(x, tuple) or len(x) != 2:
            return False
        return is_count(x[0]) and is_sign(x[1], Medium.LETTERS) and x in self._ways()

    def __iter__(self):
        raise TypeError("a Draft is not iterated over")


class Trial:
    """A block of statements behind which a Draft is as it was ahead of it."""

    def __init__(self, draft):
        self._draft = draft
        self._kept = []

    def __enter__(self):
        self._kept = self._draft._steps
        return self._draft

    def __exit__(self, kind, value, trace):
        self._draft._steps = self._kept


def tried_draft(draft, action):
    """What action returns for the Draft, which is then as it was."""
    with Trial(draft) as held:
        return action(held)
