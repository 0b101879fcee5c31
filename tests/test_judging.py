import unittest
from random import Random

from barredrows.ahead import look_ahead
from barredrows.coders import Coder, fits, misfit
from barredrows.errors import (
    DoesNotFit,
    InvalidCoder,
    InvalidMedium,
    InvalidRow,
    LimitError,
    LosesSomething,
    TooMany,
)
from barredrows.judging import clash, derived, is_clash, loses_nothing, still_open
from barredrows.least import least_weight
from barredrows.media import Medium
from barredrows.papers import Rate, Weights
from barredrows.pieces import Pieces
from barredrows.sharing import Sharing, shared
from tests.helpers import NO_INTEGERS, NO_ROWS, OTHERS, all_rows_to, check_error, kinds
from tests.test_ahead import BLIND, LATE, ONE_ONE, ring_of
from tests.test_coders import NO_CODERS, PAIR, all_texts, followed, random_coders, texts_to
from tests.test_media import random_media
from tests.test_sharing import few_weights, mixed

BB = Medium.barring(2, "bb")
SUMS = Medium.sums(1, -1, low=-1, high=1)
FREE = Medium.free(2)
# Behind the state 0 the two words are never told apart, but they lead to different states for ever.
APART = Coder(ONE_ONE, [[("a", 1), ("a", 2)], [("a", 1), ("b", 1)], [("a", 2), ("b", 2)]])
# The texts 0 0 and 1 0 have one row and lead to one state.
LOSING = Coder(ONE_ONE, [[("a", 1), ("a", 2)], [("a", 0), ("b", 1)], [("a", 0), ("b", 2)]])


def plain_row(coder, text):
    return coder.lead + "".join(followed(coder.codes(), text)[0])


def plain_clashes(coder, length):
    """The pairs of different texts of this length with one row and one end, by a listing of all texts."""
    met = {}
    for text in all_texts(coder.rate.size, length):
        _, end = followed(coder.codes(), text)
        met.setdefault((plain_row(coder, text), end), []).append(text)
    return [texts[:2] for texts in met.values() if len(texts) > 1]


def is_plain_clash(coder, value):
    one, other = [list(text) for text in value]
    codes = coder.codes()
    return one != other and len(one) == len(other) and followed(codes, one) == followed(codes, other)


def plain_derived(medium, coder, words):
    """The greatest numbers of texts of so many words with one row, by its end in the medium."""
    numbers = [0] * len(medium)
    for length in range(words + 1):
        texts = {}
        for text in all_texts(coder.rate.size, length):
            row = plain_row(coder, text)
            texts[row] = texts.get(row, 0) + 1
        for row, many in texts.items():
            end = medium.after(row)
            numbers[end] = max(numbers[end], many)
    return numbers


def chained(length):
    """A coder whose shortest clash has so many words: two chains of states that come together behind a."""
    codes = [[("a", 1), ("a", length)]]
    for side in (0, 1):
        for step in range(1, length):
            to = 0 if step + 1 == length else side * (length - 1) + step + 1
            codes.append([("b", to), ("cd"[side], 0)])
    return Coder(ONE_ONE, codes)


def fitting_coders(seed, number):
    """Coders with few states that fit a medium and lose nothing, with the medium and the least weight."""
    random = Random(seed)
    for weights in few_weights(seed + 1, number, 10):
        made = [Pieces.of(weights).evened().coder(), shared(weights).coder(),
                Sharing(weights, mixed(random, weights)).coder()]
        for coder in made:
            if len(coder) <= 10:
                yield weights.medium, coder


class Clashes(unittest.TestCase):
    def test_against_a_plain_listing(self):
        met = {}
        for _, _, coder in random_coders(501, 500):
            size = coder.rate.size
            found = clash(coder)
            self.assertIs(loses_nothing(coder), found is None)
            most = 6 if size == 2 else 3 if size == 4 else 2
            plain = [length for length in range(most + 1) if plain_clashes(coder, length)]
            if found is None:
                self.assertEqual(plain, [])
                met[None] = met.get(None, 0) + 1
                continue
            self.check_clash(coder, found)
            length = len(found[0])
            met[length] = met.get(length, 0) + 1
            self.assertEqual(plain[:1], [length] if length <= most else [])
            self.assertIsNone(look_ahead(coder))
        self.assertGreater(min(met[None], met[1], met[2], met[3]), 10)
        self.assertGreater(len(met), 5)

    def check_clash(self, coder, found):
        self.assertTrue(is_plain_clash(coder, found))
        self.assertIs(is_clash(coder, found), True)
        self.assertEqual(kinds(found), [tuple, list, list])
        self.assertIsNot(found[0], found[1])

    def test_some(self):
        self.assertEqual([clash(PAIR), clash(LATE), clash(coder=APART), look_ahead(APART)], [None] * 4)
        self.assertEqual([loses_nothing(PAIR), loses_nothing(coder=LOSING), loses_nothing(APART),
                          loses_nothing(BLIND)], [True, False, True, False])
        self.assertIn(clash(LOSING), [([0, 0], [1, 0]), ([1, 0], [0, 0])])
        same = Coder(ONE_ONE, [[("a", 1), ("b", 1)], [("a", 0), ("a", 0)]])
        self.assertEqual(len(clash(same)[0]), 2)
        self.check_clash(same, clash(same))
        at_once = Coder(Rate(6, 1), [[("a", 0)] * 64], "dd")
        self.check_clash(at_once, clash(at_once))
        self.assertEqual(len(clash(at_once)[1]), 1)

    def test_long_ones(self):
        for length in (2, 3, 9, 32):
            coder = chained(length)
            self.assertEqual(len(coder), 2 * length - 1)
            found = clash(coder)
            self.assertEqual(len(found[0]), length)
            self.check_clash(coder, found)

    def test_coders_that_fit(self):
        for medium, coder in fitting_coders(502, 120):
            self.assertTrue(fits(medium, coder))
            self.assertIs(loses_nothing(coder), True)

    def test_is_clash(self):
        yes = [([0, 0], [1, 0]), ([1, 0], [0, 0]), ((0, 0), [1, 0]), ((0, 0), (1, 0)), ([0, 0, 1, 1], [1, 0, 1, 1]),
               ([0, 1, 0], [1, 1, 0]), ([0, 0] * 300, [0, 0] * 299 + [1, 0])]
        no = [([0, 0], [0, 0]), ([0, 0], (0, 0)), ([0], [1]), ([0, 1], [1, 1]), ([0, 1], [1, 0]), ([], []),
              ([0, 0], [1, 0, 0]), ([0, 0], [1, 0], [0, 0]), ([0, 0],), (), [[0, 0], [1, 0]], ([0, 0], [1, 2]),
              ([0, 0], [1, -1]), ([0, 0], None), (None, [1, 0]), ([False, 0], [1, 0]), ([0, 0], [True, 0]),
              ([0, 0], [1, "0"]), ([0, 0], [1, None]), ([0, 0], "10"), ({0: 0}, [1, 0]), ({0}, {1}),
              ([0, 0], [[1], 0]), ([], [0])]
        for value in yes:
            self.assertTrue(is_plain_clash(LOSING, value), value)
            self.assertIs(is_clash(LOSING, value), True, value)
            self.assertIs(is_clash(value=value, coder=LOSING), True)
            self.assertIs(is_clash(LATE, value), False)
        for value in [*no, *OTHERS]:
            self.assertIs(is_clash(LOSING, value), False, value)

    def test_texts_that_come_apart(self):
        random = Random(503)
        met = {True: 0, False: 0}
        for _, _, coder in random_coders(504, 300):
            found = clash(coder)
            if found is None:
                continue
            for _ in range(6):
                wrong = [list(text) for text in found]
                text = random.choice(wrong)
                text[random.randrange(len(text))] = random.randrange(coder.rate.size)
                more = [random.randrange(coder.rate.size) for _ in range(random.randrange(3))]
                value = (wrong[0] + more, wrong[1] + more)
                told = is_plain_clash(coder, value)
                met[told] += 1
                self.assertIs(is_clash(coder, value), told)
        self.assertGreater(min(met.values()), 100)

    def test_most_states(self):
        coder = ring_of(64)
        self.check_clash(coder, clash(coder))
        for call in (clash, loses_nothing):
            check_error(self, TooMany, call, ring_of(65), what="states", limit=64)
        # A clash is followed for any number of states.
        more = ring_of(65)
        self.assertIs(is_clash(more, ([0, 1], [1, 0])), True)
        self.assertIs(is_clash(more, ([0, 1], [1, 1])), False)

    def test_no_coders(self):
        for value in NO_CODERS:
            for call in (clash, loses_nothing):
                check_error(self, InvalidCoder, call, value, value=value)
            check_error(self, InvalidCoder, is_clash, value, None, value=value)


class StillOpen(unittest.TestCase):
    def test_against_a_plain_listing(self):
        met = {}
        for _, _, coder in random_coders(505, 200):
            if coder.rate.size > 4:
                continue
            counts = {}
            for text in texts_to(coder.rate.size, 4 if coder.rate.size == 2 else 3):
                row = plain_row(coder, text)
                counts[row] = counts.get(row, 0) + 1
            for row, many in counts.items():
                self.assertEqual(still_open(coder, row), many)
                met[many] = True
            for row in all_rows_to("abc", 3):
                if row not in counts:
                    self.assertEqual(still_open(coder, row), 0)
        self.assertGreater(len(met), 5)

    def test_some(self):
        self.assertEqual([still_open(PAIR, "abba"), still_open(PAIR, "a"), still_open(PAIR, ""), still_open(PAIR, "aa"),
                          still_open(LATE, "aa"), still_open(row="aab", coder=LATE)], [1, 0, 1, 0, 2, 2])
        leading = Coder(ONE_ONE, LATE.codes(), "dc")
        self.assertEqual([still_open(leading, row) for row in ("", "d", "dc", "dca", "dcb", "cda", "a", "dcab")],
                         [0, 0, 1, 2, 0, 0, 0, 2])
        two = Coder(Rate(1, 2), PAIR.codes(), "a")
        self.assertEqual([still_open(two, row) for row in ("a", "aa", "aab", "aabb", "aabba", "b", "bab")],
                         [1, 0, 1, 0, 1, 0, 0])

    def test_2000_signs(self):
        all_same = Coder(Rate(6, 1), [[("a", 0)] * 64])
        self.assertEqual([still_open(all_same, "a" * 2000), still_open(ring_of(65), "a" * 2000)],
                         [64 ** 2000, 2 ** 2000])
        self.assertEqual([still_open(PAIR, "ab" * 1000), still_open(PAIR, "ab" * 999 + "aa")], [1, 0])
        long_lead = Coder(ONE_ONE, LATE.codes(), "d" * 2000)
        self.assertEqual([still_open(long_lead, "d" * 2000), still_open(long_lead, "d" * 1999)], [1, 0])

    def test_no_rows_no_coders(self):
        for value in (*NO_ROWS, "a" * 2001, "ab\n"):
            check_error(self, InvalidRow, still_open, PAIR, value, value=value)
        for value in NO_CODERS:
            check_error(self, InvalidCoder, still_open, value, None, value=value)


class Derived(unittest.TestCase):
    def test_against_a_plain_listing(self):
        met = {}
        for medium, coder in fitting_coders(506, 150):
            found = derived(medium, coder)
            self.assertIs(found.__class__, Weights)
            self.assertTrue(found.medium == medium and found.rate == coder.rate)
            words = 7 if coder.rate.size == 2 else 3 if coder.rate.size == 4 else 2
            plain = plain_derived(medium, coder, words)
            before = plain_derived(medium, coder, words - 2)
            self.assertTrue(all(low <= high for low, high in zip(plain, found.numbers())))
            if coder.rate.size == 2 and plain == before:
                self.assertEqual(found.numbers(), plain)
                met["equal"] = met.get("equal", 0) + 1
            # They are weights, at most the number of states; so no coder has fewer states than the least weight.
            self.assertTrue(found == Weights(medium, coder.rate, found.numbers()))
            self.assertLessEqual(max(found.numbers()), len(coder))
            try:
                self.assertLessEqual(least_weight(medium, coder.rate), max(found.numbers()))
            except LimitError:
                self.fail("there are weights of at most ten")
            met[max(found.numbers())] = met.get(max(found.numbers()), 0) + 1
        self.assertGreater(met["equal"], 30)
        self.assertGreater(min(met[1], met[2], met[3]), 5)

    def test_by_sets_of_states(self):
        """From all sets of ends of rows, followed to the end."""
        met = 0
        for medium, coder in fitting_coders(507, 150):
            codes = coder.codes()
            begin = (frozenset([0]), medium.after(coder.lead))
            sets = {begin}
            waiting = [begin]
            while waiting:
                states, at = waiting.pop()
                for block in {block for state in states for block, _ in codes[state]}:
                    ends = [to for state in states for same, to in codes[state] if same == block]
                    self.assertEqual(len(set(ends)), len(ends))
                    further = (frozenset(ends), medium.after(block, at))
                    if further not in sets:
                        sets.add(further)
                        waiting.append(further)
            plain = [max([len(states) for states, at in sets if at == state], default=0)
                     for state in range(len(medium))]
            self.assertEqual(derived(medium, coder).numbers(), plain)
            met += 1
        self.assertGreater(met, 100)

    def test_any_coders(self):
        met = {}
        random = Random(510)
        for _, medium in random_media(508, 300):
            if medium.many > 3:
                continue
            rate = Rate(1, random.randrange(1, 3))
            ways = [[(row, end) for row in all_rows_to(medium.signs, rate.q) if len(row) == rate.q
                     for end in [medium.after(row, state)] if end is not None] for state in range(len(medium))]
            # States of the coder are states of the medium, twice, so that it fits; a few words are changed.
            size = len(medium)
            codes = [[(block, end + size * random.randrange(2)) for block, end in random.choices(own, k=2)]
                     for own in [*ways, *ways]]
            coder = Coder(rate, codes)
            if len(coder) > 10:
                check_error(self, TooMany, derived, medium, coder, what="states", limit=10)
                continue
            found = clash(coder)
            if found is None:
                self.assertLessEqual(max(derived(medium, coder).numbers()), len(coder))
            else:
                self.check_losing(medium, coder)
            met[found is None] = met.get(found is None, 0) + 1
        self.assertGreater(min(met.values()), 5)

    def check_losing(self, medium, coder):
        with self.assertRaises(LosesSomething) as caught:
            derived(medium, coder)
        self.assertIs(caught.exception.__class__, LosesSomething)
        self.assertTrue(is_plain_clash(coder, caught.exception.clash))
        self.assertEqual(list(vars(caught.exception)), ["clash"])

    def test_some(self):
        self.assertEqual(derived(SUMS, PAIR).numbers(), [1, 0, 0])
        even = Pieces.of(Weights(BB, Rate(2, 3), [2, 1])).evened().coder()
        self.assertEqual(derived(coder=even, medium=BB).numbers(), [2, 1])
        self.assertEqual([derived(FREE, LATE).numbers(), derived(FREE, APART).numbers()], [[2], [2]])
        # Nothing leads to the state 0 behind a lead.
        leading = Coder(Rate(1, 2), [[("ba", 0), ("ab", 0)]], "b")
        self.assertEqual(derived(Medium.free(2), leading).numbers(), [1])
        ring = Medium(2, [{"a": 1}, {"a": 1, "b": 1}])
        self.assertEqual(derived(ring, Coder(ONE_ONE, [[("a", 0), ("b", 0)]], "a")).numbers(), [0, 1])

    def test_does_not_fit(self):
        check_error(self, DoesNotFit, derived, BB, PAIR, text=[0, 1])
        check_error(self, DoesNotFit, derived, BB, Coder(ONE_ONE, [[("a", 0), ("a", 0)]], "bb"), text=[])
        check_error(self, DoesNotFit, derived, BB, Coder(ONE_ONE, [[("a", 0), ("c", 0)]]), text=[1])
        for _, _, coder in random_coders(509, 60):
            text = misfit(BB, coder)
            if text is not None:
                check_error(self, DoesNotFit, derived, BB, coder, text=text)
        # A coder that fits no medium of fewer than four signs, and loses something as well.
        wide = Coder(ONE_ONE, [[("d", 0), ("d", 0)]])
        for medium in (FREE, Medium.free(3)):
            check_error(self, DoesNotFit, derived, medium, wide, text=[0])
        self.check_losing(Medium.free(4), wide)

    def test_loses_something(self):
        self.check_losing(FREE, LOSING)
        self.check_losing(FREE, ring_of(10))

    def test_10_states(self):
        for size in (9, 10):
            steps = [[("ab"[word], (state + 1) % size) for word in (0, 1)] for state in range(size)]
            self.assertEqual(derived(FREE, Coder(ONE_ONE, steps)).numbers(), [1])
        check_error(self, TooMany, derived, BB, ring_of(11), what="states", limit=10)
        check_error(self, TooMany, derived, FREE, ring_of(11), what="states", limit=10)
        check_error(self, TooMany, derived, FREE, ring_of(65), what="states", limit=10)

    def test_most_words(self):
        """Ten states that are all still open at one row."""
        weights = Weights(Medium.free(2), Rate(6, 6), [10])
        coder = shared(weights).coder()
        self.assertEqual(derived(weights.medium, coder).numbers(), [len(coder)])

    def test_no_media_no_coders(self):
        for value in (*OTHERS, BB.table(), PAIR):
            check_error(self, InvalidMedium, derived, value, None, value=value)
        for value in NO_CODERS:
            check_error(self, InvalidCoder, derived, BB, value, value=value)
        for value in NO_INTEGERS:
            check_error(self, InvalidCoder, derived, BB, value, value=value)
