import unittest
from itertools import product
from random import Random

from barredrows.coders import Coder, fits, misfit
from barredrows.errors import (
    InvalidCoder,
    InvalidMedium,
    InvalidRate,
    InvalidRow,
    InvalidState,
    InvalidTable,
    InvalidText,
    InvalidWord,
    TooMany,
)
from barredrows.media import Medium
from barredrows.papers import Rate
from tests.helpers import NO_INTEGERS, NO_ROWS, OTHERS, Thing, all_rows, check_error, kinds, plain_allowed
from tests.test_media import random_media
from tests.test_papers import NO_RATES

BB = Medium.barring(2, "bb")
SUMS = Medium.sums(1, -1, low=-1, high=1)
ONE_TWO = Rate(1, 2)
PAIR = Coder(ONE_TWO, [[("ab", 0), ("ba", 0)]])
NO_TEXTS = (None, True, 0, 1, "", "ab", {}, {0: 1}, set(), {0}, b"a", range(2), object(), Thing(), [0] * 201,
            (0,) * 201, [None] * 201)
NO_CODERS = (*OTHERS, PAIR.codes(), ONE_TWO, BB)


def random_codes(random, rate, states, signs, blocks=8):
    """A code table with a few different blocks."""
    few = ["".join(random.choice(signs) for _ in range(rate.q)) for _ in range(blocks)]
    return [[(random.choice(few), random.randrange(states)) for _ in range(rate.size)] for _ in range(states)]


def random_coders(seed, number):
    """Code tables with their coders, and the random source."""
    random = Random(seed)
    for _ in range(number):
        rate = Rate(random.choice((1, 1, 2, 3)), random.randrange(1, 4))
        codes = random_codes(random, rate, random.randrange(1, 7), random.choice(("ab", "abc", "abcd")))
        yield random, codes, Coder(rate, codes, random.choice(("", "a", "ba")))


def followed(codes, text, state=0):
    """The blocks and the end of a text, by a table as it was passed."""
    blocks = []
    for word in text:
        blocks.append(codes[state][word][0])
        state = codes[state][word][1]
    return blocks, state


def all_texts(size, length):
    """All texts of so many words, in order."""
    return [list(text) for text in product(range(size), repeat=length)]


def texts_to(size, length):
    return [text for many in range(length + 1) for text in all_texts(size, many)]


class Kept(unittest.TestCase):
    def test_parts(self):
        codes = [[("abc", 0), ("dda", 1), ("aaa", 1), ("abc", 1)], [("aaa", 0), ("bbb", 1), ("ccc", 0), ("ddd", 1)]]
        coder = Coder(Rate(2, 3), codes, "dc")
        self.assertTrue(coder.rate == Rate(2, 3))
        self.assertEqual([coder.lead, len(coder), coder.codes(), repr(coder)], ["dc", 2, codes, "Coder(2:3, 2)"])
        self.assertEqual([[coder[state, word] for word in range(4)] for state in range(2)], codes)
        self.assertEqual([Coder(ONE_TWO, codes=[[("ab", 0), ("ba", 0)]]).lead, Coder.MOST_ENTRIES], ["", 2000])
        self.assertTrue(Coder(lead="dc", codes=codes, rate=Rate(2, 3)) == coder)
        self.assertEqual([kinds(coder.codes()), kinds(coder.codes()[0]), kinds(coder[0, 0])],
                         [[list] * 3, [list] + [tuple] * 4, [tuple, str, int]])

    def test_tuples_for_lists(self):
        codes = ((("ab", 1), ("ba", 0)), [("ab", 0), ("bb", 1)])
        self.assertTrue(Coder(ONE_TWO, codes) == Coder(ONE_TWO, [list(entries) for entries in codes]))
        self.assertEqual(kinds(Coder(ONE_TWO, codes).codes()), [list, list, list])

    def test_kept_states(self):
        # No text leads to the states 1 and 4; the least text to 5 is [0], that to 3 is [1], that to 2 is [0, 1].
        codes = [[("a", 5), ("b", 3)], [("a", 0), ("b", 4)], [("d", 0), ("d", 2)], [("c", 2), ("c", 5)],
                 [("a", 4), ("a", 4)], [("b", 0), ("a", 2)]]
        kept = [[("a", 1), ("b", 2)], [("b", 0), ("a", 3)], [("c", 3), ("c", 1)], [("d", 0), ("d", 3)]]
        coder = Coder(Rate(1, 1), codes)
        self.assertEqual([coder.codes(), len(coder), repr(coder)], [kept, 4, "Coder(1:1, 4)"])
        self.assertTrue(coder == Coder(Rate(1, 1), kept))

    def test_least_texts_number_the_states(self):
        for _, codes, coder in random_coders(61, 100):
            size = coder.rate.size
            ends = {}
            for text in texts_to(size, len(codes) if size < 4 else 4 if size < 8 else 3):
                ends.setdefault(coder.end(text), text)
            self.assertEqual(list(ends), list(range(len(ends))))
            if size < 4:
                self.assertEqual(len(ends), len(coder))
            self.assertEqual(coder.codes(), Coder(coder.rate, coder.codes()).codes())

    def test_other_numberings_are_equal(self):
        for random, codes, coder in random_coders(62, 100):
            order = [0, *random.sample(range(1, len(codes)), len(codes) - 1)]
            more = [[(block, random.randrange(len(codes))) for block, _ in codes[0]]]
            other = [[(block, order.index(to)) for block, to in codes[old]] for old in order]
            made = Coder(coder.rate, other + more, coder.lead)
            self.assertIs(made == coder, True)
            self.assertEqual(made.codes(), coder.codes())
            self.assertIs(Coder(coder.rate, codes, coder.lead + "a") == coder, False)

    def test_equal(self):
        self.assertIs(PAIR == Coder(ONE_TWO, [[("ab", 0), ("ba", 0)]]), True)
        for value in (Coder(ONE_TWO, [[("ba", 0), ("ab", 0)]]), Coder(ONE_TWO, [[("ab", 0), ("ba", 0)]], "a"),
                      Coder(ONE_TWO, [[("ab", 1), ("ba", 1)], [("ab", 1), ("ba", 1)]]), *NO_CODERS):
            self.assertIs(PAIR == value, False)
            self.assertIs(PAIR != value, True)
        self.assertFalse(Coder(Rate(1, 1), [[("a", 0), ("b", 0)]]) == PAIR)

    def test_copies(self):
        codes = [[("ab", 0), ("ba", 0)]]
        coder = Coder(ONE_TWO, codes)
        codes[0][0] = ("aa", 0)
        coder.codes()[0].pop()
        coder.codes().append([])
        coder.blocks([0]).pop()
        self.assertEqual(coder.codes(), [[("ab", 0), ("ba", 0)]])

    def test_not_iterated_over(self):
        with self.assertRaises(TypeError):
            list(PAIR)


class Texts(unittest.TestCase):
    def test_against_plain_following(self):
        for _, codes, coder in random_coders(63, 100):
            for text in texts_to(coder.rate.size, 3):
                blocks, _ = followed(codes, text)
                self.assertEqual(coder.blocks(text), blocks)
                self.assertEqual(coder(text), coder.lead + "".join(blocks))
                self.assertEqual(list(coder.spelled(text)), list(coder.lead + "".join(blocks)))
                for state in range(len(coder)):
                    found, end = followed(coder.codes(), text, state)
                    self.assertEqual([coder.blocks(text, state), coder.end(text, state)], [found, end])

    def test_lengths(self):
        coder = Coder(Rate(1, 1), [[("a", 1), ("b", 0)], [("c", 0), ("d", 1)]], "dd")
        self.assertEqual([coder([]), coder.blocks([]), coder.end([]), coder.end([], 1), list(coder.spelled([]))],
                         ["dd", [], 0, 1, ["d", "d"]])
        text = [0] * 200
        for told in (text, tuple(text)):
            self.assertEqual([coder(told), coder.end(told), coder.blocks(text=told, state=1)],
                             ["dd" + "ac" * 100, 0, ["c", "a"] * 100])
        self.assertEqual("".join(coder.spelled(text=text)), "dd" + "ac" * 100)
        long = Coder(Rate(1, 6), [[("abcdab", 0), ("dddddd", 0)]], "c" * 2000)
        self.assertEqual(long(text), "c" * 2000 + "abcdab" * 200)
        self.assertEqual(text, [0] * 200)

    def test_by_name(self):
        self.assertEqual([PAIR.end(state=0, text=[1]), PAIR.blocks(state=0, text=[1]), PAIR([0, 1, 1]), PAIR[0, 1]],
                         [0, ["ba"], "abbaba", ("ba", 0)])


class Fits(unittest.TestCase):
    def plain_misfit(self, medium, coder, texts):
        """The least text whose row is not allowed, by trying them all."""
        for text in texts:
            if coder(text) not in medium:
                return text
        return None

    def test_against_a_plain_listing(self):
        random = Random(64)
        told = []
        media = [medium for _, medium in random_media(65, 60)]
        for medium in media:
            for _ in range(10):
                rate = Rate(1, random.randrange(1, 3))
                codes = [[self.likely_block(medium, rate.q, random, states) for _ in range(2)]
                         for states in [random.randrange(1, 4)] for _ in range(states)]
                coder = Coder(rate, codes, random.choice(("", "", "a", "b")))
                plain = self.plain_misfit(medium, coder, texts_to(2, 6))
                found = misfit(medium, coder)
                if plain is not None or found is None:
                    self.assertEqual(found, plain)
                else:
                    self.assertGreater(len(found), 6)
                    self.assertNotIn(coder(found), medium)
                self.assertIs(fits(medium, coder), found is None)
                told.append(None if found is None else len(found))
        self.assertGreater(min(told.count(None), told.count(0), told.count(1), told.count(2)), 10)
        self.assertGreater(told.count(3), 3)

    def likely_block(self, medium, length, random, states):
        """An entry whose block can mostly be walked from somewhere."""
        rows = [row for row in all_rows(medium.signs, length) if row in medium]
        return (random.choice(rows), random.randrange(states))

    def test_some(self):
        self.assertEqual([fits(SUMS, PAIR), misfit(SUMS, PAIR), misfit(BB, PAIR), fits(BB, PAIR)],
                         [True, None, [0, 1], False])
        self.assertEqual([misfit(coder=PAIR, medium=BB), fits(coder=PAIR, medium=SUMS)], [[0, 1], True])
        self.assertEqual(misfit(BB, Coder(ONE_TWO, [[("aa", 0), ("ab", 0)]], "bb")), [])
        self.assertEqual(misfit(BB, Coder(ONE_TWO, [[("aa", 0), ("ab", 0)]], "ab")), None)
        self.assertEqual(misfit(BB, Coder(ONE_TWO, [[("aa", 0), ("ba", 0)]], "ab")), [1])
        # A row with a sign that the medium does not have is not allowed.
        self.assertEqual(misfit(Medium.free(2), Coder(ONE_TWO, [[("aa", 0), ("ac", 0)]])), [1])
        self.assertEqual(misfit(Medium.free(2), Coder(ONE_TWO, [[("aa", 0), ("ab", 0)]], "d")), [])
        self.assertIsNone(misfit(Medium.free(3), Coder(ONE_TWO, [[("aa", 0), ("ac", 0)]])))

    def test_long_misfits(self):
        # 999 words lead to the last state, the only one with a wrong block.
        codes = [[("a", state + 1 if state < 999 else 0), ("b", 0)] for state in range(1000)]
        codes[999] = [("a", 0), ("c", 0)]
        self.assertEqual(misfit(Medium.free(2), Coder(Rate(1, 1), codes)), [0] * 999 + [1])
        # The states of the medium are counted as well: a and b are in balance, up to the bounds.
        codes = [[("a", 1), ("b", 2)], [("b", 0), ("b", 0)], [("a", 0), ("c", 0)]]
        self.assertEqual(misfit(SUMS, Coder(Rate(1, 1), codes)), [1, 1])
        medium = Medium.sums(1, -1, low=-7, high=7)
        self.assertEqual(misfit(medium, Coder(Rate(1, 1), [[("a", 0), ("b", 0)]])), [0] * 8)
        self.assertEqual(misfit(medium, Coder(Rate(1, 1), [[("b", 1), ("b", 0)], [("a", 0), ("b", 0)]])), [0, 1] * 4)

    def test_lead_of_2000_signs(self):
        for lead in ("a" * 2000, "ab" * 1000):
            coder = Coder(ONE_TWO, [[("aa", 0), ("ab", 0)]], lead)
            self.assertEqual([fits(BB, coder), coder.lead], [True, lead])
        self.assertEqual(misfit(BB, Coder(ONE_TWO, [[("aa", 0), ("ab", 0)]], "ab" * 999 + "bb")), [])
        self.assertFalse(plain_allowed(BB.table(), "ab" * 999 + "bb"))

    def test_wrong(self):
        for call in (misfit, fits):
            for value in (*OTHERS, BB.table(), PAIR):
                check_error(self, InvalidMedium, call, value, None, value=value)
            for value in NO_CODERS:
                check_error(self, InvalidCoder, call, BB, value, value=value)


class WrongCoders(unittest.TestCase):
    def tearDown(self):
        """Behind each refusal the coder is as it was."""
        self.assertEqual([PAIR.codes(), PAIR.lead, PAIR([0, 1])], [[[("ab", 0), ("ba", 0)]], "", "abba"])

    def test_no_rates(self):
        for value in NO_RATES:
            check_error(self, InvalidRate, Coder, value, None, None, value=value)

    def test_no_tables(self):
        for value in (*OTHERS[:-4], [], (), "ab", {0: [("ab", 0), ("ba", 0)]}, 1, PAIR):
            if not (isinstance(value, (list, tuple)) and len(value)):
                check_error(self, InvalidTable, Coder, ONE_TWO, value, None, position=None)

    def test_no_entries(self):
        good = [("ab", 0), ("ba", 1)]
        wrong = [None, [], (), "ab", good[:1], [*good, ("aa", 0)], {0: ("ab", 0), 1: ("ba", 1)}, Thing(),
                 [("ab", 0), ["ba", 1]], [("ab", 0), None], [("ab", 0), ("ba", 1, 1)], [("ab", 0), ("ba",)],
                 [("ab", 0), "b1"], [("ab", 0), ()], {("ab", 0), ("ba", 1)}]
        wrong += [[("ab", 0), (row, 1)] for row in (*NO_ROWS, "", "a", "aba", "a" * 2001)]
        wrong += [[(row, 0), ("ba", 1)] for row in ("b", "aab", "ae", None)]
        wrong += [[("ab", 0), ("ba", value)] for value in (*NO_INTEGERS, -1, 3, 10 ** 30)]
        for value in wrong:
            check_error(self, InvalidTable, Coder, ONE_TWO, [value, good, None], None, position=0)
            check_error(self, InvalidTable, Coder, ONE_TWO, (good, good, value), None, position=2)
            check_error(self, InvalidTable, Coder, ONE_TWO, [good, value, value], "e", position=1)
        self.assertEqual(len(Coder(ONE_TWO, [good, good, [("cd", 2), ("da", 0)]])), 2)

    def test_no_leads(self):
        for value in (*NO_ROWS, "a" * 2001, "ae", "abcd" * 501):
            check_error(self, InvalidRow, Coder, ONE_TWO, PAIR.codes(), value, value=value)
            check_error(self, InvalidTable, Coder, ONE_TWO, [[("ab", 0)]], value, position=0)
        self.assertEqual(Coder(ONE_TWO, PAIR.codes(), "d" * 2000).lead, "d" * 2000)

    def test_most_entries(self):
        for p, states in ((1, 1000), (2, 500), (3, 250), (4, 125), (5, 62), (6, 31)):
            rate = Rate(p, 1)
            entries = [("a", 0)] * rate.size
            ring = [[("a", (state + 1) % states)] + [("b", 0)] * (rate.size - 1) for state in range(states)]
            coder = Coder(rate, ring)
            self.assertEqual([len(coder), coder.codes()], [states, ring])
            more = ring + [entries]
            check_error(self, TooMany, Coder, rate, more, what="entries", limit=2000)
            check_error(self, InvalidRow, Coder, rate, more, "x", value="x")
            check_error(self, InvalidTable, Coder, rate, [*more, None], "x", position=len(more))
        # The passed table is counted, not what is kept of it.
        check_error(self, TooMany, Coder, Rate(1, 1), [[("a", 0), ("b", 0)]] * 1001, what="entries", limit=2000)
        self.assertEqual(len(Coder(Rate(1, 1), [[("a", 0), ("b", 0)]] * 1000)), 1)

    def test_no_texts(self):
        for value in NO_TEXTS:
            for call in (PAIR, PAIR.end, PAIR.blocks, lambda text: list(PAIR.spelled(text))):
                check_error(self, InvalidText, call, value, position=None)
            check_error(self, InvalidText, PAIR.end, value, None, position=None)
            check_error(self, InvalidText, PAIR.blocks, value, 1, position=None)
        for value in (*NO_INTEGERS, -1, 2, 10 ** 30):
            for call in (PAIR, PAIR.end, PAIR.blocks, lambda text: list(PAIR.spelled(text))):
                check_error(self, InvalidText, call, [value, None], position=0)
                check_error(self, InvalidText, call, (0, 1, value), position=2)
            check_error(self, InvalidText, call, [0] * 199 + [value], position=199)

    def test_no_states_no_words(self):
        for value in (*NO_INTEGERS, -1, 1, 10 ** 30):
            check_error(self, InvalidState, PAIR.end, [0], value, value=value)
            check_error(self, InvalidState, PAIR.blocks, [], value, value=value)
            check_error(self, InvalidState, lambda: PAIR[value, None], value=value)
        for value in (*NO_INTEGERS, -1, 2, 10 ** 30):
            check_error(self, InvalidWord, lambda: PAIR[0, value], value=value)
