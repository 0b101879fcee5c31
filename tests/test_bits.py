import unittest
from random import Random

from barredrows.bits import packed, unpacked
from barredrows.errors import InvalidBits, InvalidRate, InvalidText
from barredrows.papers import Rate
from tests.helpers import NO_INTEGERS, OTHERS, Thing, check_error, kinds
from tests.test_coders import texts_to
from tests.test_papers import NO_RATES, RATES

TWO_THREE = Rate(2, 3)
NO_LISTS = [value for value in (*OTHERS, *NO_INTEGERS, 0, 1, "01", b"01", {0: 1}, {0, 1}, range(2))
            if not isinstance(value, (list, tuple))]


def plain_packed(p, bits):
    """The words by writing the bits as a string."""
    row = "".join(str(bit) for bit in bits) + "1"
    row += "0" * ((p - len(row) % p) % p)
    return [int(row[at:at + p], 2) for at in range(0, len(row), p)]


class Packed(unittest.TestCase):
    def test_each_rate(self):
        random = Random(801)
        for rate in RATES:
            for many in (*range(14), 100, 999, 1000):
                bits = [random.randrange(2) for _ in range(many)]
                text = packed(rate, bits)
                self.assertEqual(text, plain_packed(rate.p, bits))
                self.assertEqual(len(text), many // rate.p + 1)
                self.assertEqual(packed(rate, tuple(bits)), text)
                self.assertEqual(unpacked(rate, text), bits)
                self.assertEqual(unpacked(rate, tuple(text)), bits)

    def test_all_texts(self):
        """Each text whose last word has a 1 is that of its bits."""
        for p in range(1, 4):
            rate = Rate(p, 1)
            for text in texts_to(rate.size, 4 if p < 3 else 3)[1:]:
                if text[-1] > 0:
                    self.assertEqual(packed(rate, unpacked(rate, text)), text)
                else:
                    check_error(self, InvalidText, unpacked, rate, text, position=len(text) - 1)

    def test_some(self):
        self.assertEqual([packed(TWO_THREE, [1, 0, 1]), packed(TWO_THREE, [1, 0]), unpacked(TWO_THREE, [2, 2])],
                         [[2, 3], [2, 2], [1, 0]])
        self.assertEqual([packed(TWO_THREE, []), packed(Rate(6, 1), []), packed(Rate(1, 1), [])], [[2], [32], [1]])
        self.assertEqual([unpacked(TWO_THREE, [2]), unpacked(TWO_THREE, [1]), unpacked(TWO_THREE, [3]),
                          unpacked(Rate(1, 6), [1])], [[], [0], [1], []])
        self.assertEqual([packed(bits=[1], rate=TWO_THREE), unpacked(text=[3], rate=TWO_THREE)], [[3], [1]])
        self.assertEqual([kinds(packed(TWO_THREE, [1, 0, 1])), kinds(unpacked(TWO_THREE, [2, 3]))],
                         [[list, int, int], [list, int, int, int]])

    def test_what_was_passed_stays(self):
        bits, text = [1, 0, 1], [2, 3]
        self.assertIsNot(packed(Rate(1, 1), bits), bits)
        unpacked(TWO_THREE, text)
        self.assertEqual([bits, text], [[1, 0, 1], [2, 3]])

    def test_most(self):
        self.assertEqual(len(packed(Rate(1, 1), [0] * 1000)), 1001)
        self.assertEqual(unpacked(Rate(1, 1), [0] * 1199 + [1]), [0] * 1199)
        self.assertEqual(unpacked(Rate(6, 1), [63] * 1199 + [62]), [1] * (6 * 1200 - 2))
        for rate in RATES:
            check_error(self, InvalidBits, packed, rate, [0] * 1001, position=None)
            check_error(self, InvalidBits, packed, rate, [None] * 1001, position=None)
            check_error(self, InvalidText, unpacked, rate, [1] * 1201, position=None)
            check_error(self, InvalidText, unpacked, rate, [None] * 1201, position=None)

    def test_no_bits(self):
        for value in NO_LISTS:
            check_error(self, InvalidBits, packed, TWO_THREE, value, position=None)
        for value in (*NO_INTEGERS, 2, -1, 10 ** 30, Thing()):
            check_error(self, InvalidBits, packed, TWO_THREE, [value], position=0)
            check_error(self, InvalidBits, packed, TWO_THREE, (0, 1, value, None), position=2)

    def test_no_texts(self):
        for value in (*NO_LISTS, [], ()):
            check_error(self, InvalidText, unpacked, TWO_THREE, value, position=None)
        for value in (*NO_INTEGERS, -1, 4, 10 ** 30, Thing()):
            check_error(self, InvalidText, unpacked, TWO_THREE, [value], position=0)
            check_error(self, InvalidText, unpacked, TWO_THREE, [3, 0, value, None], position=2)
            # The last word has no 1, but another one is none.
            check_error(self, InvalidText, unpacked, TWO_THREE, [3, value, 0], position=1)
        check_error(self, InvalidText, unpacked, TWO_THREE, [1, 2, 0], position=2)
        check_error(self, InvalidText, unpacked, TWO_THREE, [0], position=0)
        check_error(self, InvalidText, unpacked, Rate(1, 1), [1] * 1199 + [0], position=1199)

    def test_no_rates(self):
        for value in NO_RATES:
            check_error(self, InvalidRate, packed, value, None, value=value)
            check_error(self, InvalidRate, unpacked, value, None, value=value)
