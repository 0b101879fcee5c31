"""A desk: media, coders and texts with names, and commands about them."""

from barredrows.alike import write_same
from barredrows.basics import is_between
from barredrows.checks import MOST_IN_TEXT, is_text
from barredrows.coders import Coder, fits
from barredrows.commands import is_name, meaning, read_command
from barredrows.errors import (
    BarredError,
    CommandFailed,
    InvalidName,
    InvalidText,
    InvalidThing,
    LimitError,
    MissingError,
    NameTaken,
    NothingToUndo,
    StateError,
    UnknownName,
)
from barredrows.exact import has_weights
from barredrows.least import greatest_weights, least_weight, needs
from barredrows.media import Medium
from barredrows.pieces import Pieces
from barredrows.rates import profile

MOST_WORDS = 64


def make_free(many):
    return Medium.free(many)


def make_bar(many, *words):
    return Medium.barring(many, *words)


def make_sums(low, high, *steps):
    return Medium.sums(*steps, low=low, high=high)


def make_meet(one, other):
    return one & other


def make_code(medium, rate):
    """A coder of even pieces, None if there are loads."""
    if not has_weights(medium, rate):
        return None
    weights = greatest_weights(medium, rate, least_weight(medium, rate))
    return Pieces.of(weights).evened().coder()


def make_text(*words):
    if len(words) > MOST_IN_TEXT:
        raise InvalidText(None)
    for position, word in enumerate(words):
        if not is_between(word, 0, MOST_WORDS - 1):
            raise InvalidText(position)
    return list(words)


def tell_paper(medium, rate):
    return "weights" if has_weights(medium, rate) else "loads"


def tell_needs(medium, rate):
    if not has_weights(medium, rate):
        return "none"
    weight, ahead = needs(medium, rate)
    return f"{weight} {ahead}"


def tell_best(medium):
    return " ".join([str(bits) for bits in profile(medium)])


def tell_write(coder, text):
    return coder(text)


def tell_same(one, other):
    return "yes" if write_same(one, other) else "no"


def tell_fits(coder, medium):
    return "yes" if fits(medium, coder) else "no"


MAKERS = {
    "free": make_free,
    "bar": make_bar,
    "sums": make_sums,
    "meet": make_meet,
    "code": make_code,
    "text": make_text,
}
TELLERS = {
    "paper": tell_paper,
    "needs": tell_needs,
    "best": tell_best,
    "write": tell_write,
    "same": tell_same,
    "fits": tell_fits,
}


class Desk:
    """Media, coders and texts by names, with changes that can be taken back."""

    def __init__(self):
        # The last step is what the desk is now: its things by names, and the command that made the step, or None.
        # Steps and their list are never changed, only replaced, so that they can be kept.
        self._steps = [({}, None)]

    def do(self, command):
        """The answer to a command."""
        head, words = read_command(command)
        check_names(words, self._things())
        if head == "undo":
            self.undo()
            return "done"
        if head == "drop":
            self._drop(words[0][1], command)
            return "done"
        values = [self._value(kind, word) for kind, word in words if kind != "new"]
        if head in TELLERS:
            teller = TELLERS[head]
            return teller(*values)
        maker = MAKERS[head]
        thing = maker(*values)
        if thing is None:
            return "none"
        self._give(words[0][1], thing, command)
        return "done" if isinstance(thing, Coder) else str(len(thing))

    def do_all(self, *commands):
        """The list of the answers to the commands, none of which has an effect if one raises an error."""
        kept = self._steps
        answers = []
        for position, command in enumerate(commands):
            try:
                answers.append(self.do(command))
            except (BarredError, MissingError, StateError, LimitError) as error:
                self._steps = kept
                raise CommandFailed(position) from error
        return answers

    def undo(self):
        """Take back the last change that was not taken back."""
        if len(self._steps) == 1:
            raise NothingToUndo()
        self._steps = self._steps[:-1]

    def put(self, name, thing):
        """Give a medium, a coder or a text a name."""
        if not is_name(name):
            raise InvalidName(name)
        if not is_thing(thing):
            raise InvalidThing(thing)
        if name in self:
            raise NameTaken(name)
        self._give(name, thing, None)

    def named(self, name):
        """The thing of this name."""
        if name not in self:
            raise UnknownName(name)
        return copy_of(self._things()[name])

    def names(self):
        """The sorted list of the names in use."""
        return sorted(list(self._things()))

    def log(self):
        """The list of the commands that made or dropped something and were not taken back."""
        return [command for _, command in self._steps if command is not None]

    def tried(self, action):
        """What action returns for the desk, which is then as it was."""
        kept = self._steps
        try:
            return action(self)
        finally:
            self._steps = kept

    def _things(self):
        return self._steps[-1][0]

    def _value(self, kind, word):
        """What a word of a command stands for."""
        if is_name_of(kind):
            return copy_of(self._things()[word])
        return meaning(kind, word)

    def _give(self, name, thing, command):
        things = self._things()
        self._steps = [*self._steps, ({**things, name: copy_of(thing)}, command)]

    def _drop(self, name, command):
        things = self._things()
        left = {other: things[other] for other in things if other != name}
        self._steps = [*self._steps, (left, command)]

    def __setitem__(self, at, worth):
        self.put(at, worth)

    def __len__(self):
        return len(self._things())

    def __contains__(self, x):
        return isinstance(x, str) and x in self._things()


def is_thing(value):
    """Whether any value can have a name on a desk."""
    if isinstance(value, (Medium, Coder)):
        return True
    return is_text(value, MOST_WORDS) and 1 <= len(value) <= MOST_IN_TEXT


def copy_of(thing):
    """The thing, a text as a list of its own; media and coders do not change."""
    return thing if isinstance(thing, (Medium, Coder)) else list(thing)


def is_name_of(kind):
    """Whether words of this kind are names of things."""
    return kind in ("thing", "medium", "coder", "text")


def is_of_kind(kind, thing):
    """Whether a thing is one that words of this kind may name."""
    if kind == "medium":
        return isinstance(thing, Medium)
    if kind == "coder":
        return isinstance(thing, Coder)
    return kind == "thing" or isinstance(thing, list)


def check_names(words, things):
    """Check the names among the words of a command: the new one, then those of things."""
    for kind, word in words:
        if kind == "new" and word in things:
            raise NameTaken(word)
    for kind, word in words:
        if is_name_of(kind) and (word not in things or not is_of_kind(kind, things[word])):
            raise UnknownName(word)
