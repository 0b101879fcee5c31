import unittest

from barredrows.errors import InvalidCount, InvalidMedium
from barredrows.exact import has_weights, paper
from barredrows.media import Medium
from barredrows.papers import Rate
from barredrows.rates import best, profile
from tests.helpers import NO_INTEGERS, OTHERS, check_error, kinds
from tests.test_exact import big_media, edge_media
from tests.test_media import random_media

BB = Medium.barring(2, "bb")
SUMS = Medium.sums(1, -1, low=-1, high=1)


def plain_best(medium, length):
    """The greatest number of bits with weights, asking for each of them; the papers are judged elsewhere."""
    return max([0] + [p for p in range(1, 7) if paper(medium, Rate(p, length)).says() == "weights"])


class Best(unittest.TestCase):
    def test_against_papers(self):
        media = [medium for _, medium in random_media(53, 60)] + big_media(54, 6) + edge_media()
        for medium in media:
            plain = [plain_best(medium, length) for length in range(1, 7)]
            self.assertEqual([best(medium, length) for length in range(1, 7)], plain)
            self.assertEqual(profile(medium), plain)
            for length, bits in enumerate(plain, 1):
                self.assertEqual([p for p in range(1, 7) if has_weights(medium, Rate(p, length))],
                                 list(range(1, bits + 1)))
            for one in range(1, 6):
                for other in range(1, 7 - one):
                    self.assertGreaterEqual(plain[one + other - 1], min(6, plain[one - 1] + plain[other - 1]))

    def test_some(self):
        self.assertEqual([profile(BB), profile(SUMS)], [[0, 1, 2, 2, 3, 4], [0, 1, 1, 2, 2, 3]])
        self.assertEqual(profile(medium=Medium.free(4)), [2, 4, 6, 6, 6, 6])
        self.assertEqual(profile(Medium.free(3)), [1, 3, 4, 6, 6, 6])
        self.assertEqual(profile(Medium(2, [{"b": 0}])), [0] * 6)
        self.assertEqual([best(BB, 1), best(BB, 6), best(length=3, medium=BB)], [0, 4, 2])
        self.assertEqual(kinds(profile(BB)), [list] + [int] * 6)
        profile(BB).pop()
        self.assertEqual(len(profile(BB)), 6)

    def test_wrong(self):
        for value in (*OTHERS, BB.table()):
            check_error(self, InvalidMedium, best, value, None, value=value)
            check_error(self, InvalidMedium, profile, value, value=value)
        for value in (*NO_INTEGERS, 0, 7, -1, 10 ** 30):
            check_error(self, InvalidCount, best, BB, value, value=value)
