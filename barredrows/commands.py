"""Commands of a desk: how they are written."""

from barredrows.basics import is_row
from barredrows.errors import InvalidCommand
from barredrows.papers import Rate, is_rate

LETTERS = "abcdefghijklmnopqrstuvwxyz"
DIGITS = "0123456789"
MOST_IN_NAME = 8
# The kinds of the words behind the first one; the last kind ahead of `..` may stand any number of further times.
FORMS = {
    "free": ("new", "number"),
    "bar": ("new", "number", "row", ".."),
    "sums": ("new", "number", "number", "number", "number", ".."),
    "meet": ("new", "medium", "medium"),
    "code": ("new", "medium", "rate"),
    "text": ("new", "number", ".."),
    "drop": ("thing",),
    "undo": (),
    "paper": ("medium", "rate"),
    "needs": ("medium", "rate"),
    "best": ("medium",),
    "write": ("coder", "text"),
    "same": ("coder", "coder"),
    "fits": ("coder", "medium"),
}


def read_command(command):
    """The first word of a command, and the tuples of the kind and the further words."""
    if not isinstance(command, str):
        raise InvalidCommand(command)
    head, *words = command.split(" ")
    if head not in FORMS:
        raise InvalidCommand(command)
    kinds = kinds_of_words(FORMS[head], len(words))
    if len(kinds) != len(words) or not all([is_written(kind, word) for kind, word in zip(kinds, words)]):
        raise InvalidCommand(command)
    return head, list(zip(kinds, words))


def kinds_of_words(form, many):
    """The kinds of so many words, if the form can have so many."""
    if ".." not in form:
        return list(form)
    least = list(form[:-1])
    return least + [least[-1] for _ in range(many - len(least))]


def is_written(kind, word):
    """Whether a word is written as its kind asks."""
    if kind == "number":
        return is_number(word)
    if kind == "row":
        return is_row(word) and word != ""
    if kind == "rate":
        return is_rate(word)
    return is_name(word)


def is_number(word):
    """Whether a word is a decimal INTEGER without unnecessary zeros."""
    digits = word.removeprefix("-")
    if digits == "" or not all([digit in DIGITS for digit in digits]):
        return False
    return word == "0" or digits[0] != "0"


def is_name(value):
    """Whether any value is a name."""
    if not isinstance(value, str) or not 1 <= len(value) <= MOST_IN_NAME:
        return False
    return all([letter in LETTERS for letter in value])


def meaning(kind, word):
    """What a word stands for that is no name."""
    if kind == "number":
        return number_of_word(word)
    return Rate.read(word) if kind == "rate" else word


def number_of_word(word):
    """The INTEGER that is written."""
    number = 0
    # Digit by digit, as Python refuses to read some thousands of them at once.
    for digit in word.removeprefix("-"):
        number = 10 * number + int(digit)
    return -number if word.startswith("-") else number
