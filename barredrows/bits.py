"""Bits, packed into the words of a text and unpacked again."""

from barredrows.basics import is_between
from barredrows.checks import check_text, is_list
from barredrows.errors import InvalidBits, InvalidText
from barredrows.papers import check_rate

MOST_BITS = 1000
MOST_PACKED = 1200


def packed(rate, bits):
    """The text of the bits, a 1 that ends them, and as few 0 as fill the last word."""
    check_rate(rate)
    check_bits(bits)
    whole = [*bits, 1]
    while len(whole) % rate.p != 0:
        whole.append(0)
    return [number_of_bits(whole[at:at + rate.p]) for at in range(0, len(whole), rate.p)]


def unpacked(rate, text):
    """The bits of a text: all ahead of its last 1."""
    check_rate(rate)
    check_text(text, rate.size, 1, MOST_PACKED)
    if text[-1] == 0:
        raise InvalidText(len(text) - 1)
    bits = [word >> place & 1 for word in text for place in range(rate.p - 1, -1, -1)]
    while bits[-1] == 0:
        bits = bits[:-1]
    return bits[:-1]


def number_of_bits(bits):
    """The number that the bits write, the first one counting most."""
    number = 0
    for bit in bits:
        number = 2 * number + bit
    return number


def check_bits(bits):
    if not is_list(bits) or len(bits) > MOST_BITS:
        raise InvalidBits(None)
    for position, bit in enumerate(bits):
        if not is_between(bit, 0, 1):
            raise InvalidBits(position)
