"""Descriptions: media written as lines, and read back."""

from barredrows.basics import is_sign
from barredrows.checks import MOST_IN_TABLE
from barredrows.errors import InvalidDescription
from barredrows.media import Medium, check_medium
from barredrows.tables import least_table

HEADS = ("signs 2", "signs 3", "signs 4")


def describe(medium):
    """The description of the medium."""
    check_medium(medium)
    lines = [f"signs {medium.many}"]
    for leading in medium.table():
        ways = [f" {sign} {to}" for sign, to in leading.items()]
        lines.append("state" + "".join(ways))
    return "\n".join(lines) + "\n"


def read_medium(description):
    """The medium of a description."""
    if not isinstance(description, str):
        raise InvalidDescription(None)
    line = wrong_form(description)
    if line is not None:
        raise InvalidDescription(line)
    head, *rest = lines_of(description)
    many = int(head[-1])
    table = [read_state(words, Medium.LETTERS[:many]) for words in rest]
    if not is_medium_table(table):
        raise InvalidDescription(0)
    return Medium(many, table)


def lines_of(description):
    """The lines, without what ends them; the last one may have no line feed behind it."""
    lines = description.split("\n")
    return lines[:-1] if lines[-1] == "" else lines


def wrong_form(description):
    """The first line that is not written as it must be, None if there is none."""
    lines = lines_of(description)
    if not lines or lines[0] not in HEADS:
        return 1
    signs = Medium.LETTERS[:int(lines[0][-1])]
    for at in range(1, len(lines)):
        if at > MOST_IN_TABLE or read_state(lines[at], signs) is None:
            return at + 1
    if not description.endswith("\n"):
        return len(lines)
    return 2 if len(lines) == 1 else None


def read_state(line, signs):
    """The dict of a line `state`, None if it has not this form."""
    head, *words = line.split(" ")
    named, numbers = words[::2], words[1::2]
    if head != "state" or not named or len(named) != len(numbers):
        return None
    if not all([is_sign(sign, signs) for sign in named]) or named != sorted(set(named)):
        return None
    # Comparing with all numbers as they are written bars unnecessary zeros, too.
    written = [str(number) for number in range(MOST_IN_TABLE)]
    if not all([number in written for number in numbers]):
        return None
    return {sign: int(number) for sign, number in zip(named, numbers)}


def is_medium_table(table):
    """Whether a list of dicts from signs to COUNTS is the table of a medium."""
    if not all([to < len(table) for leading in table for to in leading.values()]):
        return False
    return len(table) <= Medium.MOST_STATES and least_table(table) == table
