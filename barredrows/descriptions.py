"""Descriptions: media written as lines, and read back."""

from barredrows.checks import MOST_IN_TABLE
from barredrows.errors import InvalidDescription
from barredrows.media import Medium, check_medium

HEADS = ("signs 2", "signs 3", "signs 4")


def describe(medium):
    """The description of the medium."""
    check_medium(medium)
    lines = [f"signs {medium.many}"]
    for leading in medium.table():
        ways = [f" {sign} {to}" for sign, to in leading.items()]
        lines.append("state" + "".join(ways))
    return "\n".join(lines) + "\n"


def read_medium(description):
    """The medium of a description."""
    if not isinstance(description, str):
        raise InvalidDescription(None)
    lines = lines_of(description)
    if not lines or lines[0] not in HEADS:
        raise InvalidDescription(1)
    many = int(lines[0][-1])
    table = []
    for at in range(1, len(lines)):
        leading = read_state(lines[at], Medium.LETTERS[:many]) if at <= MOST_IN_TABLE else None
        if leading is None:
            raise InvalidDescription(at + 1)
        table.append(leading)
    if not description.endswith("\n"):
        raise InvalidDescription(len(lines))
    if not table:
        raise InvalidDescription(2)
    return medium_of(many, table)


def lines_of(description):
    """The lines, without what ends them; the last one may have no line feed behind it."""
    lines = description.split("\n")
    return lines[:-1] if lines[-1] == "" else lines


def read_state(line, signs):
    """The dict of a line `state`, None if it has not this form."""
    head, *words = line.split(" ")
    named, numbers = words[::2], words[1::2]
    if head != "state" or not named or len(named) != len(numbers):
        return None
    # So they are sorted, different, and no others.
    if named != [sign for sign in signs if sign in named]:
        return None
    if not all([is_written(number) for number in numbers]):
        return None
    return {sign: int(number) for sign, number in zip(named, numbers)}


def is_written(word):
    """Whether a word is the number of a state, without unnecessary zeros."""
    if len(word) > 2 or not word.isascii() or not word.isdigit():
        return False
    return int(word) < MOST_IN_TABLE and (word[0] != "0" or word == "0")


def medium_of(many, table):
    """The medium whose table this is; each of its states has a sign."""
    if len(table) > Medium.MOST_STATES or not all([to < len(table) for leading in table for to in leading.values()]):
        raise InvalidDescription(0)
    medium = Medium(many, table)
    if medium.table() != table:
        raise InvalidDescription(0)
    return medium
