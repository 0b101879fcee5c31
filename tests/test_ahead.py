import unittest
from random import Random

from barredrows.ahead import blind_ring, blind_texts, is_blind_ring, is_enough, look_ahead
from barredrows.coders import Coder
from barredrows.errors import InvalidCoder, InvalidCount, TooMany
from barredrows.media import Medium
from barredrows.papers import Rate, Weights
from barredrows.pieces import Pieces
from tests.helpers import NO_INTEGERS, OTHERS, check_error, kinds
from tests.test_coders import NO_CODERS, PAIR, all_texts, followed, random_coders
from tests.test_least import narrow_ring
from tests.test_sharing import few_weights

ONE_ONE = Rate(1, 1)
ONE_TWO = Rate(1, 2)
# The block is that of the word before; so a word is known with the next block.
LATE = Coder(ONE_ONE, [[("a", 0), ("a", 1)], [("b", 0), ("b", 1)]])
# The words 0 and 1 are never told apart behind the state 0.
BLIND = Coder(ONE_ONE, [[("a", 1), ("a", 2)], [("a", 1), ("b", 0)], [("a", 2), ("b", 0)]])


def chain(length):
    """A coder of the states 0 and 2 for each of so many steps, in which two texts stay alike for so many blocks."""
    codes = [[("a", 1), ("a", 2)]]
    for step in range(length):
        for side in (0, 1):
            further = 2 * step + 3 + side if step + 1 < length else 0
            last = "ab"[side] if step + 1 == length else "a"
            codes.append([(last, further), ("cd"[side], 0)])
    return Coder(ONE_ONE, codes)


def plain_enough(codes, size, ahead):
    """Whether texts of ahead + 1 words tell their first words by their blocks, from each state, by trying all."""
    for state in range(len(codes)):
        first = {}
        for text in all_texts(size, ahead + 1):
            blocks, _ = followed(codes, text, state)
            if first.setdefault(tuple(blocks), text[0]) != text[0]:
                return False
    return True


def is_plain_ring(codes, value):
    """Whether a tuple of a state and four texts is a blind ring, by following the table."""
    state, one, other, first, second = value
    if len(one) != len(other) or not one or one[0] == other[0] or not first or len(first) != len(second):
        return False
    blocks, end = followed(codes, one, state)
    others, beside = followed(codes, other, state)
    again, again_end = followed(codes, first, end)
    more, more_end = followed(codes, second, beside)
    return blocks == others and again == more and (again_end, more_end) == (end, beside)


class LookAhead(unittest.TestCase):
    def test_against_a_plain_listing(self):
        told = []
        for _, _, coder in random_coders(81, 500):
            if coder.rate.size > 4:
                continue
            codes = coder.codes()
            most = 5 if coder.rate.size == 2 else 2
            plain = [plain_enough(codes, coder.rate.size, ahead) for ahead in range(most + 1)]
            self.assertEqual([is_enough(coder, ahead) for ahead in range(most + 1)], plain)
            least = look_ahead(coder)
            told.append(least)
            if True in plain:
                self.assertEqual(least, plain.index(True))
            elif least is not None:
                self.assertGreater(least, most)
            self.check_certificates(coder, least, most + 3)
        self.assertGreater(min(told.count(None), told.count(0), told.count(1)), 15)
        self.assertGreater(told.count(2), 3)

    def check_certificates(self, coder, least, most):
        codes = coder.codes()
        ring = blind_ring(coder)
        if least is None:
            self.assertTrue(is_plain_ring(codes, ring))
            self.assertIs(is_blind_ring(coder, ring), True)
            self.assertEqual(kinds(ring), [tuple, int, list, list, list, list])
            self.assertEqual(len({id(text) for text in ring[1:]}), 4)
        else:
            self.assertIsNone(ring)
            self.assertIs(is_enough(coder, least), True)
            self.assertIs(is_enough(coder, 5000), True)
            self.assertIs(least > 0 and is_enough(coder, least - 1), False)
        for ahead in range(most):
            texts = blind_texts(coder, ahead)
            if least is not None and ahead >= least:
                self.assertIsNone(texts)
            else:
                self.check_texts(codes, texts, ahead)

    def check_texts(self, codes, texts, ahead):
        state, one, other = texts
        self.assertEqual(kinds(texts), [tuple, int, list, list])
        self.assertEqual([len(one), len(other)], [ahead + 1] * 2)
        self.assertNotEqual(one[0], other[0])
        self.assertEqual(followed(codes, one, state)[0], followed(codes, other, state)[0])

    def test_some(self):
        self.assertEqual([look_ahead(PAIR), look_ahead(LATE), look_ahead(BLIND)], [0, 1, None])
        self.assertEqual([is_enough(PAIR, 0), is_enough(LATE, 0), is_enough(LATE, 1), is_enough(BLIND, 5000)],
                         [True, False, True, False])
        self.assertEqual([is_enough(ahead=1, coder=LATE), look_ahead(coder=LATE)], [True, 1])
        self.assertIn(blind_texts(ahead=0, coder=LATE), [(state, [one], [1 - one]) for state in (0, 1)
                                                         for one in (0, 1)])
        self.assertEqual([blind_texts(LATE, 1), blind_texts(PAIR, 0), blind_ring(coder=LATE)], [None, None, None])
        # Two words with one block that lead to one state.
        same = Coder(ONE_ONE, [[("a", 1), ("a", 1)], [("a", 0), ("b", 0)]])
        self.assertIsNone(look_ahead(same))
        self.check_certificates(same, None, 10)

    def test_by_pairs_of_states(self):
        """Coders of pieces, by following all pairs of states with the same blocks at once."""
        met = {}
        for weights in [*few_weights(85, 150), Weights(narrow_ring(4), Rate(1, 1), [1, 2, 4, 8, 16, 8, 4, 2]),
                        Weights(Medium.barring(2, "bb"), Rate(2, 3), [26, 16])]:
            coder = Pieces.of(weights).evened().coder()
            codes = coder.codes()
            pairs = {(one[1], other[1]) for entries in codes for at, one in enumerate(entries)
                     for other in entries[:at] if one[0] == other[0]}
            ahead = 0
            while pairs:
                pairs = {(one[1], other[1]) for first, second in pairs for one in codes[first]
                         for other in codes[second] if one[0] == other[0]}
                ahead += 1
            self.assertEqual(look_ahead(coder), ahead)
            self.check_certificates(coder, ahead, ahead + 2)
            met[ahead] = True
        self.assertGreater(len(met), 4)

    def test_several_beginnings(self):
        # Behind the state 1 two words are told apart sooner than behind the state 0.
        codes = [[("aa", 1), ("aa", 2)], [("ab", 3), ("ab", 4)], [("ab", 5), ("ba", 0)], [("bb", 0), ("ba", 0)],
                 [("cc", 0), ("ca", 0)], [("dd", 0), ("da", 0)]]
        for order in ([0, 1, 2, 3, 4, 5], [1, 0, 2, 3, 4, 5]):
            made = [[(block, order.index(to)) for block, to in codes[old]] for old in order]
            coder = Coder(ONE_TWO, made)
            self.assertEqual(look_ahead(coder), 2)
            self.check_certificates(coder, 2, 5)

    def test_long_look_ahead(self):
        for length in (1, 2, 5, 31):
            coder = chain(length)
            self.assertEqual(len(coder), 2 * length + 1)
            self.assertEqual(look_ahead(coder), length)
            self.check_certificates(coder, length, length + 2)

    def test_ahead_0_and_5000(self):
        self.check_texts(BLIND.codes(), blind_texts(BLIND, 5000), 5000)
        self.check_texts(BLIND.codes(), blind_texts(BLIND, 0), 0)
        self.assertIsNone(blind_texts(LATE, 5000))
        for value in (*NO_INTEGERS, -1, 5001, 10 ** 30):
            for call in (is_enough, blind_texts):
                check_error(self, InvalidCount, call, PAIR, value, value=value)
                check_error(self, InvalidCount, call, ring_of(65), value, value=value)

    def test_most_states(self):
        coder = ring_of(64)
        self.assertEqual([len(coder), look_ahead(coder)], [64, None])
        self.check_certificates(coder, None, 3)
        more = ring_of(65)
        self.assertEqual(len(more), 65)
        for call in (look_ahead, blind_ring):
            check_error(self, TooMany, call, more, what="states", limit=64)
        for call in (is_enough, blind_texts, is_blind_ring):
            check_error(self, TooMany, call, more, 0, what="states", limit=64)
        # What is not kept does not count.
        kept = Coder(ONE_ONE, PAIR_ONE + [[("a", 0), ("b", at)] for at in range(100)])
        self.assertEqual(look_ahead(kept), 0)

    def test_many_words(self):
        random = Random(82)
        for p, states in ((6, 31), (5, 62)):
            for signs in ("a", "abcd"):
                codes = [[(random.choice(signs), (state + word) % states) for word in range(2 ** p)]
                         for state in range(states)]
                coder = Coder(Rate(p, 1), codes)
                self.assertIsNone(look_ahead(coder))
                self.assertTrue(is_plain_ring(coder.codes(), blind_ring(coder)))
                self.check_texts(coder.codes(), blind_texts(coder, 40), 40)

    def test_no_coders(self):
        for value in NO_CODERS:
            for call in (look_ahead, blind_ring):
                check_error(self, InvalidCoder, call, value, value=value)
            for call in (is_enough, blind_texts, is_blind_ring):
                check_error(self, InvalidCoder, call, value, None, value=value)


PAIR_ONE = [[("a", 0), ("b", 0)]]


def ring_of(size):
    """A coder of so many states all of whose blocks are the same."""
    return Coder(ONE_ONE, [[("a", (state + 1) % size), ("a", state)] for state in range(size)])


class BlindRings(unittest.TestCase):
    def test_is_blind_ring(self):
        yes = [(0, [0], [1], [0], [0]), (0, [1], [0], [0], [0]), (0, [0, 0], [1, 0], [0, 0], [0, 0]),
               (0, (0,), [1], (0,), [0]), (0, [0, 1, 0], [1, 1, 0], [0], [0]), (0, [0, 1], [1, 1], [0, 1], [0, 1]),
               (0, [0] + [0] * 400, [1] + [0] * 400, [0] * 300, [0] * 300), (0, [0, 1], [1, 1], [1, 1], [1, 1]),
               (0, [0], [1], [1, 0], [1, 1]), (0, [0, 1], [1, 1], [0, 1], [1, 1])]
        no = [(0, [0], [0], [0], [0]), (1, [0], [1], [0], [0]), (3, [0], [1], [0], [0]), (-1, [0], [1], [0], [0]),
              (0, [0], [1], [], []), (0, [], [], [0], [0]), (0, [0], [1, 0], [0], [0]), (0, [0], [1], [0], [0, 0]),
              (0, [0], [1], [1], [1]), (0, [0], [1], [0], [1]), (0, [0], [1], [1], [0]), (0, [0, 0], [1, 1], [0], [0]),
              (0, [0], [1], [0]), (0, [0], [1], [0], [0], [0]), [0, [0], [1], [0], [0]], (0, [0], [2], [0], [0]),
              (0, [0], [1], [0, 1], [0, 1]), (0, [0], [], [0], [0]), (0, [], [1], [0], [0]), (0, [0], [1], [], [0]),
              (0, [0], [1], [0], []), (0, [0], [1], [2], [2]), (0, [0], [1], [-1], [0])]
        no += [(value, [0], [1], [0], [0]) for value in NO_INTEGERS]
        for place in range(1, 5):
            for value in (None, True, 0, "0", {0: 0}, {0}, [None], [False], [True], ["0"], [[0]], b"0"):
                no.append(tuple(value if at == place else told
                                for at, told in enumerate((0, [0], [1], [0], [0]))))
        for value in yes:
            self.assertTrue(is_plain_ring(BLIND.codes(), value), value)
            self.assertIs(is_blind_ring(BLIND, value), True, value)
            self.assertIs(is_blind_ring(value=value, coder=BLIND), True)
            self.assertIs(is_blind_ring(LATE, value), False)
        for value in [*no, *OTHERS]:
            self.assertIs(is_blind_ring(BLIND, value), False, value)

    def test_states_of_a_ring(self):
        coder = Coder(ONE_ONE, [[("a", 0), ("a", 0)]])
        self.assertIs(is_blind_ring(coder, (0, [0], [1], [0], [0])), True)
        for value in (*NO_INTEGERS, -1, 1, 10 ** 30):
            self.assertIs(is_blind_ring(coder, (value, [0], [1], [0], [0])), False)

    def test_rings_that_come_apart(self):
        random = Random(83)
        met = {True: 0, False: 0}
        for _, _, coder in random_coders(84, 400):
            ring = blind_ring(coder)
            if ring is None:
                continue
            state, *texts = ring
            for _ in range(8):
                wrong = [list(text) for text in texts]
                text = random.choice(wrong)
                text[random.randrange(len(text))] = random.randrange(coder.rate.size)
                value = (random.randrange(len(coder)) if random.randrange(4) == 0 else state, *wrong)
                told = is_plain_ring(coder.codes(), value)
                met[told] += 1
                self.assertIs(is_blind_ring(coder, value), told)
        self.assertGreater(min(met.values()), 50)
