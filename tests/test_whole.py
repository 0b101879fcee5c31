"""What the document promises over the whole program."""

import unittest
from random import Random

from barredrows.ahead import look_ahead
from barredrows.alike import merged, write_same
from barredrows.bits import packed, unpacked
from barredrows.coders import Coder, fits
from barredrows.counts import count
from barredrows.damage import WindowReader, spoiled
from barredrows.desk import Desk
from barredrows.errors import Lost, TooMany
from barredrows.exact import paper, too_few
from barredrows.judge import certificate_of, is_certificate
from barredrows.judging import clash, derived, is_clash, loses_nothing, still_open
from barredrows.least import greatest_weights, least_weight, needs
from barredrows.marks import clear_rows, join
from barredrows.media import Medium
from barredrows.papers import Rate, Weights
from barredrows.pieces import Pieces
from barredrows.readers import Reader, closed, read_closed
from barredrows.sharing import shared
from barredrows.windows import window
from tests.test_coders import random_coders
from tests.test_media import random_media
from tests.test_papers import RATES

BB = Medium.barring(2, "bb")
MEDIA = (BB, Medium.barring(2, "aa", "bbb"), Medium.runs(2, a=3, b=2), Medium.sums(1, -1, low=-1, high=1),
         Medium.sums(1, -1, 0, low=-1, high=2), Medium.barring(3, "aa", "bb", "cc"), Medium.free(4),
         Medium.barring(2, "bab") & Medium.runs(2, a=4), Medium.barring(2, "abba") >> "ab")


def built(medium, rate):
    """The coder of even pieces of the greatest weights of at most the least weight, None if there are too many."""
    try:
        return Pieces.of(greatest_weights(medium, rate, least_weight(medium, rate))).evened().coder()
    except TooMany:
        return None


def weighty_cases():
    return [(medium, rate) for medium in MEDIA for rate in RATES if rate.q <= 4
            and paper(medium, rate).says() == "weights"]


class AnyBits(unittest.TestCase):
    def test_packed_written_read_and_unpacked(self):
        random = Random(1101)
        met = 0
        for medium, rate in weighty_cases():
            coder = built(medium, rate)
            if coder is None:
                continue
            met += 1
            ahead = look_ahead(coder)
            for many in (0, 1, 17, min(1000, rate.p * (200 - ahead) - rate.p)):
                bits = [random.randrange(2) for _ in range(many)]
                text = packed(rate, bits)
                row = closed(coder, text)
                self.assertIn(row, medium)
                self.assertEqual(unpacked(rate, read_closed(coder, row)), bits)
                self.assertEqual(unpacked(rate, self.read_on(coder, row, ahead)), bits)
        self.assertGreater(met, 40)

    def read_on(self, coder, row, ahead):
        """The words that a reader returns for the blocks of the row, one by one."""
        reader = Reader(coder)
        row = row[len(coder.lead):]
        for at in range(0, len(row), coder.rate.q):
            reader(row[at:at + coder.rate.q])
        self.assertEqual(reader.pending, ahead)
        return reader.words()

    def test_from_the_end(self):
        for medium, rate in weighty_cases():
            weights = greatest_weights(medium, rate, least_weight(medium, rate))
            if weights.total > 64 or weights.total * rate.size > 2000:
                continue
            share = shared(weights)
            bits = [1, 0, 0, 1, 1, 0, 1] * 9
            row = share.written(packed(rate, bits))
            self.assertIn(row, medium)
            self.assertEqual(unpacked(rate, share.read_back(row)), bits)

    def test_through_a_window(self):
        met = 0
        for medium, rate in weighty_cases():
            coder = built(medium, rate)
            if coder is None or window(coder) is None:
                continue
            text = packed(rate, [1, 1, 0, 1, 0, 0] * 10)
            reader = WindowReader(coder)
            told = reader(coder.blocks(text))
            self.assertEqual(told[reader.behind:len(text) - reader.ahead], text[reader.behind:len(text) - reader.ahead])
            for place in (0, 7, len(text) * rate.q - 1):
                for sign in medium.signs:
                    found = spoiled(coder, text, place, sign)
                    self.assertTrue(not found or found[-1] - found[0] < reader.spread)
            met += 1
        self.assertGreater(met, 20)

    def test_with_marks(self):
        """Rows without a mark, which is joined to each of them, so that one knows where they end."""
        mark = "abaab"
        medium = clear_rows(BB, mark)
        coder = built(medium, Rate(1, 2))
        bits = [1, 0, 1, 1, 0, 0, 1]
        row = closed(coder, packed(Rate(1, 2), bits))
        whole = row + join(BB, mark, row) + mark
        self.assertIn(whole, BB)
        self.assertEqual(whole.find(mark), len(whole) - len(mark))
        self.assertNotIn(mark, row)

    def test_on_a_desk(self):
        desk = Desk()
        text = packed(Rate(2, 3), [1, 0, 0, 1, 1])
        desk["t"] = text
        desk.do_all("bar m 2 bb", "code c m 2:3")
        coder = desk.named("c")
        row = desk.do("write c t")
        self.assertIn(row, BB)
        self.assertEqual(still_open(coder, row) >= 1, True)
        ahead = look_ahead(coder)
        self.assertEqual(read_closed(coder, row), text[:len(text) - ahead] if text[-ahead:] == [0] * ahead else None)
        self.assertEqual(unpacked(Rate(2, 3), read_closed(coder, closed(coder, text))), [1, 0, 0, 1, 1])


class Guarantees(unittest.TestCase):
    def test_one_or_the_other(self):
        for _, medium in random_media(1102, 60):
            for rate in RATES[::5]:
                found = [certificate_of((kind, medium, rate)) for kind in ("weights", "loads")]
                self.assertEqual(found.count(None), 1)
                says = paper(medium, rate).says()
                self.assertIsNotNone(found[0 if says == "weights" else 1])

    def test_nothing_whatever(self):
        for medium in MEDIA:
            for rate in RATES:
                if rate.q <= 4 and paper(medium, rate).says() == "loads":
                    for more in (0, 1, 7):
                        try:
                            words = too_few(medium, rate, more)
                        except TooMany:
                            continue
                        if words * rate.q + more <= 400:
                            self.assertLess(count(medium, words * rate.q + more), rate.size ** words)

    def test_built_and_still_open(self):
        for medium, rate in weighty_cases():
            coder = built(medium, rate)
            if coder is None or len(coder) > 64:
                continue
            self.assertTrue(fits(medium, coder) and loses_nothing(coder))
            self.assertTrue(is_certificate(("fits", medium, coder), certificate_of(("fits", medium, coder))))
            self.assertIsNone(certificate_of(("clash", coder)))
            if len(coder) <= 10:
                weights = derived(medium, coder)
                self.assertTrue(is_certificate(("weights", medium, rate), weights))
                self.assertLessEqual(max(weights.numbers()), len(coder))

    def test_at_least(self):
        """Coders that fit and lose nothing have enough states, and look far enough ahead."""
        met = 0
        for medium, rate in weighty_cases():
            weight, ahead = needs(medium, rate)
            claim = ("states", medium, rate, weight)
            self.assertTrue(is_certificate(claim, certificate_of(claim)))
            self.assertIsNone(certificate_of(("states", medium, rate, weight + 1)))
            coder = built(medium, rate)
            if coder is None:
                continue
            for told in (coder, merged(coder)):
                self.assertGreaterEqual(len(told), weight)
                if look_ahead(told) is not None:
                    self.assertGreaterEqual(look_ahead(told), ahead)
                met += 1
            self.assertTrue(write_same(coder, merged(coder)))
        self.assertGreater(met, 80)

    def test_no_small_coder(self):
        """All coders of one state for bb at 2:3 and of two at 1:1 do not fit, or lose something."""
        rows = [row for row in ("aaa", "aab", "aba", "abb", "baa", "bab", "bba", "bbb")]
        for first in rows:
            for second in rows:
                for third in rows:
                    for fourth in rows:
                        coder = Coder(Rate(2, 3), [[(block, 0) for block in (first, second, third, fourth)]])
                        self.assertFalse(fits(BB, coder) and loses_nothing(coder))
        self.assertEqual(needs(BB, Rate(2, 3)), (2, 1))

    def test_clashes_are_lost(self):
        """A reader cannot be made for coders that lose something, and no other one loses its way in its own rows."""
        for random, _, coder in random_coders(1103, 100):
            found = clash(coder)
            if found is not None:
                self.assertTrue(is_clash(coder, found))
                self.assertIsNone(look_ahead(coder))
            elif look_ahead(coder) is not None:
                reader = Reader(coder)
                try:
                    for block in coder.blocks([random.randrange(coder.rate.size) for _ in range(30)]):
                        reader(block)
                except Lost:
                    self.fail("these are the blocks of a text")

    def test_checked_against_each_other(self):
        weights = Weights(BB, Rate(2, 3), [2, 1])
        coder = Pieces.of(weights).evened().coder()
        self.assertEqual(derived(BB, coder).numbers(), [2, 1])
        self.assertTrue(derived(BB, shared(weights).coder()).medium == BB)
