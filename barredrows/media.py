"""Media: rules that bar some rows of signs."""

from barredrows.basics import is_row
from barredrows.checks import (
    check_bounds,
    check_limits,
    check_many,
    check_row,
    check_state,
    check_steps,
    check_table,
    check_words,
    is_short_row,
)
from barredrows.errors import InvalidMedium, InvalidRow, NothingLeft, OtherSigns, TooMany
from barredrows.shapes import barring_table, free_table, runs_table, sums_table
from barredrows.steps import leads_of
from barredrows.tables import least_rows, least_table, meet_table, walked


class Medium:
    """A rule that bars some rows; equal media have equal tables."""

    MOST_STATES = 16
    LETTERS = "abcd"

    def __init__(self, many, table):
        check_many(many)
        check_table(table, self.LETTERS[:many])
        self._many = many
        self._table = medium_table(table)
        self._leads = leads_of(self._table, self.LETTERS[:many])

    @classmethod
    def free(cls, many):
        """The medium that allows all rows."""
        check_many(many)
        return cls(many, free_table(cls.LETTERS[:many]))

    @classmethod
    def barring(cls, many, *words):
        """The medium of the rows in which no word stands."""
        check_many(many)
        signs = cls.LETTERS[:many]
        check_words(words, signs)
        return cls(many, barring_table(signs, words))

    @classmethod
    def runs(cls, many, **limits):
        """The medium of the rows in which signs do not stand too often in succession."""
        check_many(many)
        signs = cls.LETTERS[:many]
        check_limits(limits, signs)
        return cls(many, runs_table(signs, limits))

    @classmethod
    def sums(cls, *steps, low, high):
        """The medium of the rows whose sums of steps stay within the bounds."""
        check_steps(steps)
        check_bounds(low, high)
        return cls(len(steps), sums_table(cls.LETTERS[:len(steps)], steps, low, high))

    @property
    def many(self):
        return self._many

    @property
    def signs(self):
        return self.LETTERS[:self._many]

    def table(self):
        """The list of the dicts of the states."""
        return [dict(leading) for leading in self._table]

    def leads(self):
        """The leads of barredrows.steps, with which is reckoned."""
        return self._leads

    def walk(self, row, state):
        """The state to which a row of any length leads from the state, None if it cannot be walked."""
        return walked(self._table, row, state)

    def after(self, row, state=0):
        """The state to which the row leads from the state, None if it cannot be walked."""
        check_row(row)
        check_state(state, len(self))
        return walked(self._table, row, state)

    def least_row(self, state):
        """The least row that leads to the state."""
        check_state(state, len(self))
        return least_rows(self._table)[state]

    def is_within(self, other):
        """Whether each row that this medium allows is allowed by the other one."""
        check_media(self, other)
        # Then, and only then, the meet bars nothing that this medium allows.
        return least_table(meet_table(self._table, other._table)) == self._table

    def __len__(self):
        return len(self._table)

    def __contains__(self, x):
        return is_row(x) and walked(self._table, x, 0) is not None

    def __and__(self, other):
        check_media(self, other)
        return Medium(self._many, medium_table(meet_table(self._table, other._table)))

    def __rshift__(self, other):
        if not is_short_row(other) or other not in self:
            raise InvalidRow(other)
        return Medium(self._many, medium_table(self._table, walked(self._table, other, 0)))

    def __eq__(self, other):
        return isinstance(other, Medium) and self._many == other._many and self._table == other._table

    def __repr__(self):
        return f"Medium({self._many}, {self._table})"


def medium_table(table, start=0):
    """The table of the medium that begins in this state of the table, which may have any number of states."""
    least = least_table(table, start)
    if not least:
        raise NothingLeft()
    if len(least) > Medium.MOST_STATES:
        raise TooMany("states", Medium.MOST_STATES)
    return least


def check_medium(medium):
    if not isinstance(medium, Medium):
        raise InvalidMedium(medium)


def check_media(one, other):
    """Check two media that must have the same signs."""
    check_medium(one)
    check_medium(other)
    if one.many != other.many:
        raise OtherSigns(one.many, other.many)
