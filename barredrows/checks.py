"""Checks of what is passed: each raises the error that belongs to its parameter."""

from barredrows.basics import is_between, is_count, is_integer, is_row, is_sign
from barredrows.errors import (
    InvalidBlock,
    InvalidBounds,
    InvalidCount,
    InvalidLimits,
    InvalidNumbers,
    InvalidRow,
    InvalidSign,
    InvalidSigns,
    InvalidState,
    InvalidSteps,
    InvalidTable,
    InvalidText,
    InvalidWord,
    InvalidWords,
)

MOST_IN_ROW = 2000
MOST_IN_TABLE = 64
MOST_LENGTH = 400
MOST_IN_TEXT = 200


def is_list(value):
    """Whether any value is a list, or a tuple in the place of one."""
    return isinstance(value, (list, tuple))


def is_short_row(value):
    """Whether any value is a row that may be passed as a row."""
    return is_row(value) and len(value) <= MOST_IN_ROW


def check_many(many):
    if not is_between(many, 2, 4):
        raise InvalidSigns(many)


def check_row(row):
    if not is_short_row(row):
        raise InvalidRow(row)


def check_state(state, size):
    """Check the number of a state, there being so many of them."""
    if not is_between(state, 0, size - 1):
        raise InvalidState(state)


def check_sign(sign, signs):
    if not is_sign(sign, signs):
        raise InvalidSign(sign)


def check_length(length, least, most):
    if not is_between(length, least, most):
        raise InvalidCount(length)


def is_dict_of_state(value, signs, size):
    """Whether any value is a dict from some of the signs to some of so many states."""
    if not isinstance(value, dict):
        return False
    if not all([is_sign(sign, signs) for sign in value]):
        return False
    return all([is_count(to) and to < size for to in value.values()])


def check_table(table, signs):
    if not is_list(table) or not 1 <= len(table) <= MOST_IN_TABLE:
        raise InvalidTable(None)
    for position, leading in enumerate(table):
        if not is_dict_of_state(leading, signs, len(table)):
            raise InvalidTable(position)


def check_numbers(numbers, size, least):
    """Check numbers of so many states, each of which is an INTEGER of at least so much."""
    if not is_list(numbers) or len(numbers) != size:
        raise InvalidNumbers(None)
    for position, number in enumerate(numbers):
        if not is_integer(number) or number < least:
            raise InvalidNumbers(position)


def check_words(words, signs):
    """Check the words that are to be barred."""
    if not 1 <= len(words) <= 8:
        raise InvalidWords(None)
    for position, word in enumerate(words):
        if not is_row(word) or not 1 <= len(word) <= 8:
            raise InvalidWords(position)
        if not all([sign in signs for sign in word]):
            raise InvalidWords(position)


def is_text(value, size):
    """Whether any value is a list of words, each below size, of any length."""
    return is_list(value) and all([is_between(word, 0, size - 1) for word in value])


def check_word(word, size):
    if not is_between(word, 0, size - 1):
        raise InvalidWord(word)


def check_text(text, size, least=0, most=MOST_IN_TEXT):
    """Check a text of words below size, from least to most of them."""
    if not is_list(text) or not least <= len(text) <= most:
        raise InvalidText(None)
    for position, word in enumerate(text):
        if not is_between(word, 0, size - 1):
            raise InvalidText(position)


def is_block(value, length):
    """Whether any value is a row of so many signs."""
    return is_row(value) and len(value) == length


def check_block(block, length):
    if not is_block(block, length):
        raise InvalidBlock(block)


def check_blocks(blocks, length):
    """Check a list of rows of so many signs each."""
    if not is_list(blocks):
        raise InvalidBlock(blocks)
    for block in blocks:
        check_block(block, length)


def check_limits(limits, signs):
    """Check how often each sign may stand in succession."""
    if not limits:
        raise InvalidLimits(None)
    for sign in sorted(limits):
        if not is_sign(sign, signs) or not is_between(limits[sign], 1, 15):
            raise InvalidLimits(sign)


def check_steps(steps):
    if not 2 <= len(steps) <= 4:
        raise InvalidSteps(None)
    for position, step in enumerate(steps):
        if not is_between(step, -9, 9):
            raise InvalidSteps(position)


def check_bounds(low, high):
    """Check the bounds of sums, the empty sum 0 lying between them."""
    # The width is asked last: only then both are known to be INTEGERS.
    if not is_between(low, -15, 0) or not is_between(high, 0, 15) or high - low > 15:
        raise InvalidBounds(low, high)
