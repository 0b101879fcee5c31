import unittest
from random import Random

from barredrows.coders import Coder, fits
from barredrows.counts import row_at
from barredrows.errors import (
    InvalidNumber,
    InvalidPaper,
    InvalidSharing,
    InvalidState,
    InvalidText,
    LimitError,
    TooMany,
)
from barredrows.exact import has_weights, paper
from barredrows.least import greatest_weights, least_weight
from barredrows.media import Medium
from barredrows.papers import Loads, Rate, Weights
from barredrows.sharing import Sharing, shared
from tests.helpers import NO_INTEGERS, NO_ROWS, OTHERS, Thing, all_rows_to, check_error, kinds, plain_sums, plain_walk
from tests.test_coders import NO_TEXTS, followed, texts_to
from tests.test_exact import big_media
from tests.test_media import random_media
from tests.test_papers import RATES

BB = Medium.barring(2, "bb")
SUMS = Medium.sums(1, -1, low=-1, high=1)
WEIGHTS = Weights(BB, Rate(2, 3), [2, 1])
# The slots of state 0 are (aaa, 0), (aaa, 1), (aab, 0), (aba, 0), (aba, 1), (baa, 0), (baa, 1), (bab, 0).
SHARES = [[[("bab", 0), ("baa", 1), ("baa", 0), ("aba", 1)], [("aaa", 0), ("aaa", 1), ("aab", 0), ("aba", 0)]],
          [[("aba", 0), ("aba", 1), ("aab", 0), ("aaa", 1)]]]
SHARE = Sharing(WEIGHTS, SHARES)
NO_WEIGHTS = (*OTHERS, [2, 1], Loads(BB, Rate(3, 4), [3, 2]), BB)


def plain_slots(weights, state):
    """All slots of the state, by trying all rows."""
    table = weights.medium.table()
    rows = [row for row in all_rows_to(weights.medium.signs, weights.rate.q) if len(row) == weights.rate.q]
    ends = [(row, plain_walk(table, row, state)) for row in rows]
    return [(row, number) for row, end in ends if end is not None for number in range(weights[end])]


def some_weights(seed, number, most_total=64):
    """Weights of many media, some told by paper and some by the least weight, not too many together."""
    random = Random(seed)
    found = []
    for _, medium in random_media(seed + 1, number):
        rate = random.choice([rate for rate in RATES if rate.q <= 4 and rate.p <= 3])
        if has_weights(medium, rate):
            told = [paper(medium, rate)]
            try:
                told.append(greatest_weights(medium, rate, least_weight(medium, rate)))
            except LimitError:
                pass
            told += [weights * 2 for weights in told]
            found += [weights for weights in told if weights.total <= most_total
                      and weights.total * rate.size <= 2000]
    return found


def few_weights(seed, number, most_total=64):
    """Weights of which there are pieces."""
    return [weights for weights in some_weights(seed, number, most_total)
            if sum(plain_sums(weights.medium, weights.rate.q, weights.numbers())) <= 2000]


def mixed(random, weights):
    """Shares in which the slots of each state are given in any order."""
    shares = []
    for state in range(len(weights)):
        slots = plain_slots(weights, state)
        random.shuffle(slots)
        size = weights.rate.size
        shares.append([slots[size * at:size * (at + 1)] for at in range(weights[state])])
    return shares


def plain_written(share, text):
    """The written row by following the slots, and the tail by the rows of its length."""
    weights = share.weights
    medium = weights.medium
    table = medium.table()
    state = [state for state in range(len(weights)) if weights[state]][0]
    row, number = medium.least_row(state), 0
    for word in text:
        way, number = share.shares()[state][number][word]
        row += way
        state = plain_walk(table, way, state)
    return row + row_at(medium, share.tail_length(), number, state)


class Sharings(unittest.TestCase):
    def test_shared_is_a_sharing(self):
        met = 0
        for weights in some_weights(71, 150):
            share = shared(weights)
            met += 1
            self.assertTrue(share.weights == weights)
            shares = share.shares()
            self.assertEqual(len(shares), len(weights))
            for state, pairs in enumerate(shares):
                slots = plain_slots(weights, state)
                self.assertEqual([len(given) for given in pairs], [weights.rate.size] * weights[state])
                given = [slot for found in pairs for slot in found]
                self.assertEqual(len(set(given)), len(given))
                self.assertTrue(set(given) <= set(slots))
            self.assertTrue(Sharing(weights, shares) == share)
        self.assertGreater(met, 60)

    def test_each_written_row_is_read_back(self):
        random = Random(72)
        for weights in some_weights(73, 90):
            for share in (shared(weights), Sharing(weights, mixed(random, weights))):
                size = weights.rate.size
                texts = texts_to(size, 3 if size == 2 else 2)
                texts += [[random.randrange(size) for _ in range(many)] for many in (5, 30, 200)]
                rows = [share.written(text) for text in texts]
                self.assertEqual(len(set(rows)), len(rows))
                for text, row in zip(texts, rows):
                    self.assertEqual(row, plain_written(share, text))
                    self.assertTrue(row in weights.medium)
                    self.assertEqual(share.read_back(row), text)

    def test_rows_that_are_not_written(self):
        random = Random(74)
        refused = 0
        for weights in some_weights(75, 150):
            if weights.medium.many > 2 or weights.rate.q > 3:
                continue
            share = random.choice((shared(weights), Sharing(weights, mixed(random, weights))))
            size = weights.rate.size
            written = {share.written(text): text for text in texts_to(size, 10 if size == 2 else 4 if size == 4 else 3)}
            longest = len(share.written([0] * (3 if size > 4 else 4)))
            for row in all_rows_to(weights.medium.signs, min(longest, 11)):
                found = share.read_back(row)
                refused += found is None
                if row in written or found is None:
                    self.assertEqual(found, written.get(row))
                else:
                    self.assertEqual(share.written(found), row)
        self.assertGreater(refused, 1000)

    def test_tails(self):
        for weights in some_weights(76, 120):
            share = shared(weights)
            medium = weights.medium
            length = share.tail_length()

            def enough(signs):
                return all(len(rows_from(medium, signs, state)) >= weights[state] for state in range(len(weights)))

            self.assertTrue(enough(length))
            self.assertFalse(length and enough(length - 1))
            for state in range(len(weights)):
                rows = rows_from(medium, length, state)
                self.assertEqual([share.tail(state, number) for number in range(weights[state])],
                                 rows[:weights[state]])

    def test_coders(self):
        random = Random(77)
        for weights in some_weights(78, 120):
            share = Sharing(weights, mixed(random, weights))
            begin = [state for state in range(len(weights)) if weights[state]][0]
            self.assertTrue(share.coder() == share.coder(begin))
            for state in range(len(weights)):
                if weights[state]:
                    coder = share.coder(state)
                    self.check_coder(share, coder, state, random)

    def check_coder(self, share, coder, state, random):
        weights = share.weights
        size = weights.rate.size
        self.assertTrue(coder.rate == weights.rate)
        self.assertEqual(coder.lead, weights.medium.least_row(state))
        self.assertTrue(fits(weights.medium, coder))
        self.assertLessEqual(len(coder), weights.total)
        table = weights.medium.table()
        texts = texts_to(size, 2 if size < 8 else 1) + [[random.randrange(size) for _ in range(20)] for _ in range(3)]
        ends = {}
        for text in texts:
            place, number, row = state, 0, coder.lead
            for word in text:
                way, number = share.shares()[place][number][word]
                row += way
                place = plain_walk(table, way, place)
            self.assertEqual(coder(text), row)
            # Different pairs are different states, and the other way round.
            self.assertEqual(ends.setdefault((place, number), coder.end(text)), coder.end(text))
        self.assertEqual(len(set(ends.values())), len(ends))
        # It loses nothing: texts of one length with one row lead to different states.
        found = [(len(text), coder(text), coder.end(text)) for text in texts_to(size, 2 if size < 8 else 1)]
        self.assertEqual(len(set(found)), len(found))

    def test_big_media(self):
        met = 0
        for medium in big_media(79, 6):
            for rate in RATES[::7]:
                if has_weights(medium, rate):
                    weights = greatest_weights(medium, rate, least_weight(medium, rate))
                    if weights.total <= 64 and weights.total * rate.size <= 2000:
                        met += 1
                        share = shared(weights)
                        text = [at * 5 % rate.size for at in range(200)]
                        self.assertEqual(share.read_back(share.written(text)), text)
                        self.assertTrue(fits(medium, share.coder()))
        self.assertGreater(met, 5)

    def test_some(self):
        share = shared(WEIGHTS)
        self.assertEqual([share.read_back(share.written([3, 0, 2])), share.tail_length(), share.read_back("bb")],
                         [[3, 0, 2], 1, None])
        self.assertEqual([SHARE.written([]), SHARE.written([0]), SHARE.written([0, 3]), SHARE.written([3, 1])],
                         ["a", "baba", "babaaab", "abaaaab"])
        self.assertEqual([SHARE.tail(0, 0), SHARE.tail(0, 1), SHARE.tail(number=0, state=1)], ["a", "b", "a"])
        self.assertEqual([SHARE.read_back("a"), SHARE.read_back("b"), SHARE.read_back(""), SHARE.read_back("baba")],
                         [[], None, None, [0]])
        self.assertEqual([SHARE.written(text=[1]), SHARE.read_back(value="baab"), SHARE.read_back("bbab")],
                         ["baab", [1], None])
        self.assertTrue(SHARE.coder(state=1) == Coder(Rate(2, 3), [
            [("aba", 1), ("aba", 2), ("aab", 0), ("aaa", 2)],
            [("bab", 0), ("baa", 2), ("baa", 1), ("aba", 2)],
            [("aaa", 1), ("aaa", 2), ("aab", 0), ("aba", 1)],
        ], "b"))
        self.assertEqual(SHARE.coder().lead, "")
        self.assertEqual(followed(SHARE.coder().codes(), [0])[0], ["bab"])

    def test_a_state_of_weight_0(self):
        weights = Weights(SUMS, Rate(1, 2), [0, 1, 1])
        share = shared(weights)
        self.assertEqual(share.shares()[0], [])
        self.assertEqual([share.coder().lead, share.written([]), share.tail_length()], ["a", "a", 0])
        self.assertEqual([share.read_back("a"), share.read_back(""), share.read_back("b")], [[], None, None])
        text = [1, 0, 0, 1]
        self.assertEqual(share.read_back(share.written(text)), text)
        self.assertTrue(share.coder(None) == share.coder(1))
        self.assertEqual(share.coder(2).lead, "b")
        check_error(self, InvalidState, share.coder, 0, value=0)
        check_error(self, InvalidNumber, share.tail, 0, 0, value=0)
        self.assertEqual(share.tail(1, 0), "")
        made = Sharing(weights, [[], [[("ba", 0), ("bb", 0)]], ([(("aa"), 0), ("ab", 0)],)])
        self.assertEqual(made.read_back(made.written(text)), text)
        check_error(self, InvalidSharing, Sharing, weights, [[[]], made.shares()[1], made.shares()[2]], position=0)

    def test_texts_of_200_words(self):
        for share in (SHARE, shared(Weights(Medium.free(2), Rate(1, 1), [1]))):
            size = share.weights.rate.size
            text = [at % size for at in range(200)]
            row = share.written(text)
            self.assertEqual([share.read_back(row), share.written(tuple(text))], [text, row])
            check_error(self, InvalidText, share.written, text + [0], position=None)
        # The row of 201 words is no written row.
        self.assertEqual(share.read_back("ab" * 100), [0, 1] * 100)
        self.assertIsNone(share.read_back("ab" * 100 + "a"))
        self.assertIsNone(share.read_back("a" * 5000))

    def test_most_weight(self):
        free = Medium.free(2)
        share = shared(Weights(free, Rate(1, 1), [64]))
        self.assertEqual(share.tail_length(), 6)
        self.assertEqual(share.tail(0, 63), "bbbbbb")
        text = [1, 0, 1, 1, 0, 0, 0, 1] * 25
        self.assertEqual(share.read_back(share.written(text)), text)
        check_error(self, TooMany, shared, Weights(free, Rate(1, 1), [65]), what="weight", limit=64)
        # The weight is asked ahead of the entries; a Sharing has no limit of the weight but the entries.
        check_error(self, TooMany, shared, Weights(free, Rate(6, 6), [65]), what="weight", limit=64)
        slots = [(sign, number) for number in range(65) for sign in "ab"]
        made = Sharing(Weights(free, Rate(1, 1), [65]), [[slots[2 * at:2 * at + 2] for at in range(65)]])
        self.assertEqual([made.tail_length(), made.read_back(made.written(text))], [7, text])

    def test_most_entries(self):
        free = Medium.free(2)
        for p, total in ((5, 62), (6, 31)):
            share = shared(Weights(free, Rate(p, p), [total]))
            self.assertEqual(share.read_back(share.written([3, 2, 1])), [3, 2, 1])
            weights = Weights(free, Rate(p, p), [total + 1])
            check_error(self, TooMany, shared, weights, what="entries", limit=2000)
            slots = plain_slots(weights, 0)
            size = 2 ** p
            shares = [[slots[size * at:size * (at + 1)] for at in range(total + 1)]]
            check_error(self, TooMany, Sharing, weights, shares, what="entries", limit=2000)
            shares[0][1][2] = None
            check_error(self, InvalidSharing, Sharing, weights, shares, position=0)
        weights = Weights(free, Rate(1, 1), [1000])
        slots = plain_slots(weights, 0)
        share = Sharing(weights, [[slots[2 * at:2 * at + 2] for at in range(1000)]])
        self.assertEqual([share.tail_length(), share.read_back(share.written([1] * 200))], [10, [1] * 200])

    def test_equal(self):
        self.assertIs(SHARE == Sharing(weights=WEIGHTS, shares=tuple(map(tuple, SHARES))), True)
        other = [SHARES[0][::-1], SHARES[1]]
        for value in (Sharing(WEIGHTS, other), shared(Weights(BB, Rate(1, 3), [2, 1])), *OTHERS, SHARES, WEIGHTS):
            self.assertIs(SHARE == value, False)
            self.assertIs(SHARE != value, True)
        # The same shares of other weights.
        shares = [[[("a", 0), ("b", 0)]]]
        two, three = [Sharing(Weights(Medium.free(many), Rate(1, 1), [1]), shares) for many in (2, 3)]
        self.assertEqual([two == two, two == three, two.shares() == three.shares()], [True, False, True])

    def test_what_was_passed_stays(self):
        shares = [[list(slots) for slots in pairs] for pairs in SHARES]
        share = Sharing(WEIGHTS, shares)
        shares[0][0][0] = ("aaa", 0)
        share.shares()[0][0][0] = None
        share.shares()[0].pop()
        share.shares().pop()
        self.assertEqual(share.shares(), SHARES)
        self.assertEqual([kinds(share.shares()), kinds(share.shares()[0]), kinds(share.shares()[0][0])],
                         [[list] * 3, [list] * 3, [list] + [tuple] * 4])
        lists = [share.shares(), share.shares()]
        lists += [pairs for found in lists for pairs in found]
        lists += [slots for pairs in lists[2:] for slots in pairs]
        self.assertEqual(len({id(found) for found in lists}), len(lists))


class WrongSharings(unittest.TestCase):
    def tearDown(self):
        """Behind each refusal the sharing is as it was."""
        self.assertEqual(SHARE.shares(), SHARES)
        self.assertEqual([WEIGHTS.numbers(), SHARE.written([0, 3])], [[2, 1], "babaaab"])

    def test_no_weights(self):
        for value in NO_WEIGHTS:
            check_error(self, InvalidPaper, Sharing, value, None, value=value)
            check_error(self, InvalidPaper, shared, value, value=value)

    def test_no_lists(self):
        for value in (*OTHERS, SHARES[:1], [*SHARES, []], {0: SHARES[0], 1: SHARES[1]}, "ab", SHARE):
            check_error(self, InvalidSharing, Sharing, WEIGHTS, value, position=None)

    def test_no_shares_of_a_state(self):
        slots = SHARES[1][0]
        wrong = [None, [], "a", 0, {0: slots}, [slots, slots], [slots[:3]], [[*slots, ("baa", 0)]], [None], [{}], slots,
                 ["abcd"], Thing()]
        wrong += [[[*slots[:3], slot]] for slot in (
            None, "aa", [], ["aaa", 1], ("aaa",), ("aaa", 1, 1), ("aaa", 2), ("aaa", -1), ("aab", 1), ("baa", 0),
            ("aa", 0), ("aaaa", 0), ("bbb", 0), ("aac", 0), ("", 0), ("aba", 0), ("aba", 1), ("aaa", True),
            ("aaa", None), ("aaa", "1"), ("aaa", 10 ** 30), (None, 0), (b"aaa", 0), (["a", "a", "a"], 0), (1, 0))]
        for value in wrong:
            check_error(self, InvalidSharing, Sharing, WEIGHTS, [SHARES[0], value], position=1)
            check_error(self, InvalidSharing, Sharing, WEIGHTS, (SHARES[0], value), position=1)
            check_error(self, InvalidSharing, Sharing, WEIGHTS, [None, value], position=0)
        # A slot given twice, to one pair and to two.
        for pairs in ([SHARES[0][0], SHARES[0][0]], [SHARES[0][0], [*SHARES[0][1][:3], ("bab", 0)]],
                      [SHARES[0][0], [("aab", 0), *SHARES[0][1][1:]]]):
            check_error(self, InvalidSharing, Sharing, WEIGHTS, [pairs, SHARES[1]], position=0)

    def test_no_states_no_numbers(self):
        for value in (*NO_INTEGERS[1:], -1, 2, 10 ** 30):
            check_error(self, InvalidState, SHARE.coder, value, value=value)
        for value in (*NO_INTEGERS, -1, 2, 10 ** 30):
            check_error(self, InvalidState, SHARE.tail, value, None, value=value)
            check_error(self, InvalidNumber, SHARE.tail, 0, value, value=value)
        check_error(self, InvalidNumber, SHARE.tail, 1, 1, value=1)

    def test_no_texts(self):
        for value in NO_TEXTS:
            check_error(self, InvalidText, SHARE.written, value, position=None)
        for value in (*NO_INTEGERS, -1, 4, 10 ** 30):
            check_error(self, InvalidText, SHARE.written, [value, None], position=0)
            check_error(self, InvalidText, SHARE.written, (0, 3, value), position=2)

    def test_no_written_rows(self):
        for value in (*NO_ROWS, "bb", "aaac", "aa", "aaaaa", "ab" * 400, ["a"], ("a",), 3, SHARE):
            self.assertIsNone(SHARE.read_back(value))


def rows_from(medium, length, state):
    """The rows of so many signs from the state, in order."""
    table = medium.table()
    found = [("", state)]
    for _ in range(length):
        found = [(row + sign, table[end][sign]) for row, end in found for sign in sorted(table[end])]
    return [row for row, _ in found]
