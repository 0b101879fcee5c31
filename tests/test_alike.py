import unittest
from random import Random

from barredrows.alike import merged, parting_text, write_same
from barredrows.coders import Coder
from barredrows.errors import InvalidCoder, OtherRate
from barredrows.papers import Rate, Weights
from barredrows.media import Medium
from barredrows.sharing import shared
from tests.helpers import check_error, kinds
from tests.test_ahead import BLIND, LATE, ONE_ONE, ring_of
from tests.test_coders import NO_CODERS, PAIR, all_texts, followed, random_codes, random_coders, texts_to

ONE_TWO = Rate(1, 2)
DOUBLE = Coder(ONE_TWO, [[("ab", 1), ("ba", 0)], [("ab", 0), ("ba", 1)]])


def plain_row(coder, text):
    return coder.lead + "".join(followed(coder.codes(), text)[0])


def plain_parting(one, other, most):
    """The first text in order of at most so many words that has different rows."""
    for text in texts_to(one.rate.size, most):
        if plain_row(one, text) != plain_row(other, text):
            return text
    return None


def like_coder(coder, random, copies):
    """A coder that writes the same, with several copies of each state."""
    size = len(coder)
    codes = [[(block, to + size * random.randrange(copies)) for block, to in entries]
             for _ in range(copies) for entries in coder.codes()]
    return Coder(coder.rate, codes, coder.lead)


def changed_coder(coder, random):
    """The coder with another block or another next state in one place."""
    codes = coder.codes()
    state, word = random.randrange(len(coder)), random.randrange(coder.rate.size)
    block, to = codes[state][word]
    if random.randrange(2):
        at = random.randrange(len(block))
        block = block[:at] + random.choice("abcd") + block[at + 1:]
    else:
        to = random.randrange(len(coder))
    codes[state][word] = (block, to)
    return Coder(coder.rate, codes, coder.lead)


def plain_kinds(coder):
    """How many states write differently, by their blocks for all texts of as many words as there are states."""
    texts = all_texts(coder.rate.size, min(len(coder), 6))
    return len({tuple(tuple(followed(coder.codes(), text, state)[0]) for text in texts)
                for state in range(len(coder))})


class Parting(unittest.TestCase):
    def test_against_a_plain_listing(self):
        met = {}
        for random, _, coder in random_coders(601, 400):
            if coder.rate.size > 4:
                continue
            other = changed_coder(coder, random)
            for one, two in ((coder, other), (other, coder), (like_coder(coder, random, 2), other), (coder, coder)):
                found = parting_text(one, two)
                most = 6 if coder.rate.size == 2 else 3
                if found is None:
                    self.assertIsNone(plain_parting(one, two, most))
                elif len(found) <= most:
                    self.assertEqual(found, plain_parting(one, two, most))
                    self.assertEqual(kinds(found)[:1], [list])
                self.assertIs(write_same(one, two), found is None)
                length = None if found is None else len(found)
                met[length] = met.get(length, 0) + 1
        self.assertGreater(min(met[None], met[1], met[2], met[3], met[4]), 10)

    def test_any_coders(self):
        met = {}
        random = Random(602)
        for _ in range(300):
            rate = Rate(random.choice((1, 1, 2)), random.randrange(1, 3))
            # With few blocks two coders write alike for a while.
            one, other = [Coder(rate, random_codes(random, rate, random.randrange(1, 5), "ab", 1 + random.randrange(2)),
                                random.choice(("", "", "a"))) for _ in range(2)]
            found = parting_text(one, other)
            self.assertEqual(found, parting_text(other, one))
            plain = plain_parting(one, other, 7 if rate.size == 2 else 3)
            if plain is not None or found is None or len(found) <= (7 if rate.size == 2 else 3):
                self.assertEqual(found, plain)
            length = None if found is None else len(found)
            met[length] = met.get(length, 0) + 1
        self.assertGreater(min(met[None], met[0], met[1], met[2]), 5)

    def test_some(self):
        self.assertEqual([parting_text(DOUBLE, PAIR), write_same(DOUBLE, PAIR), parting_text(PAIR, PAIR)],
                         [None, True, None])
        self.assertEqual([parting_text(LATE, BLIND), write_same(other=BLIND, one=LATE)], [[0, 1], False])
        self.assertEqual(parting_text(one=LATE, other=Coder(ONE_ONE, [[("a", 0), ("b", 0)]])), [1])
        # The least one is the first of the shortest.
        one = Coder(ONE_ONE, [[("a", 1), ("a", 2)], [("a", 1), ("a", 1)], [("a", 2), ("b", 2)]])
        self.assertEqual(parting_text(one, Coder(ONE_ONE, [[("a", 0), ("a", 0)]])), [1, 1])

    def test_leads(self):
        for lead, other in (("", "a"), ("a", "b"), ("a", "aa"), ("ab", "")):
            one, two = [Coder(ONE_TWO, PAIR.codes(), told) for told in (lead, other)]
            self.assertEqual([parting_text(one, two), write_same(one, two)], [[], False])
            self.assertEqual([write_same(one, Coder(ONE_TWO, DOUBLE.codes(), lead))], [True])
        # The whole rows of longer texts may be the same.
        one, two = Coder(ONE_ONE, [[("a", 0), ("a", 0)]]), Coder(ONE_ONE, [[("a", 0), ("a", 0)]], "a")
        self.assertEqual(parting_text(one, two), [])

    def test_long_texts(self):
        for size in (2, 20, 999):
            codes = [[("a", (state + 1) % size), ("a", (state + 1) % size)] for state in range(size)]
            other = [list(entries) for entries in codes]
            other[-1][1] = ("b", 0)
            found = parting_text(Coder(ONE_ONE, codes), Coder(ONE_ONE, other))
            self.assertEqual(found, [0] * (size - 1) + [1])
            self.assertEqual(len(merged(Coder(ONE_ONE, codes))), 1)
            self.assertEqual(len(merged(Coder(ONE_ONE, other))), size)

    def test_many_states(self):
        one, other = ring_of(1000), ring_of(999)
        self.assertEqual([len(one), parting_text(one, other), merged(one) == merged(other)], [1000, None, True])

    def test_other_rates(self):
        for one, other in ((PAIR, LATE), (LATE, PAIR), (PAIR, Coder(Rate(1, 1), LATE.codes(), "a"))):
            for call in (parting_text, write_same):
                with self.assertRaises(OtherRate) as caught:
                    call(one, other)
                self.assertEqual(list(vars(caught.exception)), ["one", "other"])
                self.assertTrue(caught.exception.one == one.rate and caught.exception.other == other.rate)
                self.assertIs(caught.exception.one.__class__, Rate)

    def test_no_coders(self):
        for value in NO_CODERS:
            for call in (parting_text, write_same):
                check_error(self, InvalidCoder, call, value, None, value=value)
                check_error(self, InvalidCoder, call, PAIR, value, value=value)
            check_error(self, InvalidCoder, merged, value, value=value)


class Merged(unittest.TestCase):
    def test_fewest_states(self):
        met = {True: 0, False: 0}
        for random, _, coder in random_coders(603, 300):
            if coder.rate.size > 4:
                continue
            found = merged(coder)
            self.assertIs(found.__class__, Coder)
            self.assertTrue(found.rate == coder.rate)
            self.assertEqual(found.lead, coder.lead)
            self.assertTrue(write_same(found, coder))
            self.assertIsNone(plain_parting(found, coder, 5 if coder.rate.size == 2 else 2))
            # All its states are told apart, so no coder with fewer writes the same.
            self.assertEqual(len(found), plain_kinds(found))
            self.assertEqual(len(found), plain_kinds(coder))
            self.assertTrue(merged(found) == found)
            for copies in (1, 2, 3):
                self.assertTrue(merged(like_coder(coder, random, copies)) == found)
            met[len(found) < len(coder)] += 1
        self.assertGreater(min(met.values()), 10)

    def test_all_small_coders(self):
        """No coder with fewer states writes the same, by all coders of one and two states with these blocks."""
        def all_coders(states):
            entries = [(block, to) for block in "ab" for to in range(states)]
            tables = [[]]
            for _ in range(states):
                tables = [[*table, [first, second]] for table in tables for first in entries for second in entries]
            return [Coder(ONE_ONE, table) for table in tables]

        found = {}
        for states in (1, 2):
            for coder in all_coders(states):
                rows = tuple(plain_row(coder, text) for text in texts_to(2, 4))
                known = found.setdefault(rows, coder)
                self.assertEqual(len(merged(coder)), len(known))
                self.assertTrue(merged(coder) == merged(known))
        self.assertGreater(len(found), 50)

    def test_some(self):
        self.assertTrue(merged(DOUBLE) == PAIR)
        self.assertTrue(merged(coder=LATE) == LATE)
        leading = merged(Coder(ONE_TWO, DOUBLE.codes(), "dc"))
        self.assertEqual([leading.lead, len(leading)], ["dc", 1])
        # The states 1 and 2 write the same blocks, but go on otherwise.
        codes = [[("a", 1), ("a", 2)], [("a", 1), ("b", 0)], [("a", 1), ("b", 1)]]
        self.assertEqual(len(merged(Coder(ONE_ONE, codes))), 3)

    def test_sharings(self):
        coder = shared(Weights(Medium.barring(2, "bb"), Rate(2, 3), [2, 1])).coder()
        found = merged(coder)
        self.assertTrue(write_same(coder, found))
        self.assertLessEqual(len(found), len(coder))

    def test_what_was_passed_stays(self):
        codes = DOUBLE.codes()
        merged(DOUBLE)
        self.assertEqual(DOUBLE.codes(), codes)
