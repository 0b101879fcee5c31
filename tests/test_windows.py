import unittest
from random import Random

from barredrows.coders import Coder
from barredrows.errors import InvalidCoder, InvalidCount, TooMany
from barredrows.media import Medium
from barredrows.memory import memory
from barredrows.papers import Rate, Weights
from barredrows.pieces import Pieces
from barredrows.windows import endless_runs, has_window, is_endless_runs, window
from tests.helpers import NO_INTEGERS, OTHERS, Thing, check_error, kinds
from tests.test_ahead import BLIND, LATE, ONE_ONE, ring_of
from tests.test_coders import NO_CODERS, PAIR, all_texts, followed, random_coders
from tests.test_least import narrow_ring
from tests.test_sharing import few_weights

# The word is the block, or the other way round in state 1; each block leads to the other state.
TURNING = Coder(ONE_ONE, [[("a", 1), ("b", 1)], [("b", 0), ("a", 0)]])
# The state tells itself: a and b are written from state 0 only, c and d from state 1 only.
TOLD = Coder(ONE_ONE, [[("a", 1), ("b", 0)], [("c", 0), ("d", 1)]])
# The block a is written by both words; the next one tells them apart, as does the state that it comes from.
AFTER = Coder(ONE_ONE, [[("a", 1), ("a", 2)], [("b", 0), ("c", 0)], [("d", 0), ("d", 1)]])


def plain_window(codes, size, behind, ahead):
    """Whether blocks tell the word at the position behind, by a listing of all texts from all states."""
    words = {}
    for state in range(len(codes)):
        for text in all_texts(size, behind + 1 + ahead):
            blocks, _ = followed(codes, text, state)
            if words.setdefault(tuple(blocks), text[behind]) != text[behind]:
                return False
    return True


def pairs_window(codes, behind, ahead):
    """The same for any numbers, by the sets of all pairs of states with the same blocks, step by step."""
    states = range(len(codes))
    steps = {(one, other): [(word, twin, (to, beside)) for word, (block, to) in enumerate(codes[one])
                            for twin, (same, beside) in enumerate(codes[other]) if block == same]
             for one in states for other in states}
    led_to, going_on = set(steps), set(steps)
    for _ in range(behind):
        further = {to for pair in led_to for _, _, to in steps[pair]}
        if further == led_to:
            break
        led_to = further
    for _ in range(ahead):
        before = {pair for pair in steps if any(to in going_on for _, _, to in steps[pair])}
        if before == going_on:
            break
        going_on = before
    return all(word == twin for pair in led_to for word, twin, to in steps[pair] if to in going_on)


def is_plain_runs(codes, value):
    """Whether a tuple of two tuples of a state and three texts is endless runs, by following the table."""
    found = []
    for state, past, text, future in value:
        around, begin = followed(codes, past, state)
        blocks, end = followed(codes, text, begin)
        again, last = followed(codes, future, end)
        if begin != state or last != end or not past or not future:
            return False
        found.append((around, blocks, again))
    texts = [list(run[2]) for run in value]
    return found[0] == found[1] and texts[0] != texts[1]


def line(length):
    """A coder whose word is only told by so many blocks ahead of its own."""
    # From the states 1 and 2 the blocks are turned or not, and stay so for ever; before, they are told apart.
    codes = [[("c", 1), ("d", length + 1)]]
    for side in (0, 1):
        for step in range(length):
            to = 0 if step + 1 == length else side * length + step + 2
            codes.append([("ab"[side], to), ("ba"[side], to)])
    return Coder(ONE_ONE, codes)


class Windows(unittest.TestCase):
    def test_against_a_plain_listing(self):
        met = {True: 0, False: 0}
        for _, codes, coder in random_coders(301, 400):
            size = coder.rate.size
            if size > 4:
                continue
            codes = coder.codes()
            most = 4 if size == 2 else 2
            for around in range(most + 1):
                for behind in range(around + 1):
                    plain = plain_window(codes, size, behind, around - behind)
                    self.assertIs(pairs_window(codes, behind, around - behind), plain)
                    self.assertIs(has_window(coder, behind, around - behind), plain)
                    met[plain] += 1
        self.assertGreater(min(met.values()), 300)

    def test_least(self):
        met = {}
        for _, _, coder in random_coders(302, 600):
            found = window(coder)
            self.check_least(coder, found)
            met[found] = met.get(found, 0) + 1
        self.assertGreater(min(met[None], met[0, 0]), 30)
        self.assertGreater(len(met), 5)
        self.assertTrue(any(found and found[0] and found[1] for found in met))

    def check_least(self, coder, found):
        """That this is the least window, by all pairs of states; without one there are endless runs."""
        codes = coder.codes()
        runs = endless_runs(coder)
        if found is None:
            self.assertFalse(pairs_window(codes, 5000, 5000))
            self.check_runs(coder, runs)
            return
        behind, ahead = found
        self.assertIsNone(runs)
        self.assertEqual(kinds(found), [tuple, int, int])
        self.assertTrue(pairs_window(codes, behind, ahead))
        self.assertFalse(ahead > 0 and pairs_window(codes, 5000, ahead - 1))
        self.assertFalse(behind > 0 and pairs_window(codes, behind - 1, ahead))
        for more, further in ((0, 0), (1, 0), (0, 1), (3, 5)):
            self.assertIs(has_window(coder, behind + more, ahead + further), True)
        self.assertIs(ahead > 0 and has_window(coder, 5000, ahead - 1), False)
        self.assertIs(behind > 0 and has_window(coder, behind - 1, ahead), False)

    def check_runs(self, coder, runs):
        self.assertTrue(is_plain_runs(coder.codes(), runs))
        self.assertIs(is_endless_runs(coder, runs), True)
        self.assertEqual(kinds(runs), [tuple, tuple, tuple])
        for run in runs:
            self.assertEqual(kinds(run), [tuple, int, list, list, list])
        self.assertEqual(len({id(text) for run in runs for text in run[1:]}), 6)

    def test_some(self):
        self.assertEqual([window(PAIR), window(LATE), window(BLIND), window(TURNING)], [(0, 0), (0, 1), None, None])
        self.assertEqual([window(TOLD), window(line(1)), window(line(2)), window(line(9))],
                         [(0, 0), (1, 0), (2, 0), (9, 0)])
        self.assertEqual(window(AFTER), (0, 1))
        self.assertEqual([has_window(LATE, 0, 0), has_window(LATE, 5000, 0), has_window(LATE, 0, 1),
                          has_window(line(2), 1, 0), has_window(line(2), 2, 0)], [False, False, True, False, True])
        self.assertEqual([has_window(ahead=1, coder=PAIR, behind=3), window(coder=PAIR)], [True, (0, 0)])

    def test_a_window_that_is_no_least_one(self):
        # The words of the first two states are told apart by the block ahead of them, or by the one that follows.
        coder = Coder(Rate(1, 2), [[("aa", 2), ("ab", 2)], [("ab", 3), ("aa", 3)], [("ca", 0), ("cb", 1)],
                                   [("da", 0), ("db", 1)]])
        self.check_least(coder, window(coder))
        self.assertEqual([window(coder), has_window(coder, 0, 1), has_window(coder, 0, 0)], [(1, 0), True, False])
        least = {}
        for _, _, coder in random_coders(303, 500):
            found = window(coder)
            if found is not None and found[0] > 0:
                fewer = [(behind, ahead) for behind in range(found[0]) for ahead in range(found[1] + 1, 8)
                         if has_window(coder, behind, ahead)]
                for behind, ahead in fewer:
                    self.assertTrue(pairs_window(coder.codes(), behind, ahead))
                least[bool(fewer)] = least.get(bool(fewer), 0) + 1
        self.assertGreater(min(least[True], least[False]), 3)

    def test_no_state_leads_to_the_first(self):
        # Only from state 0, to which no text leads, are both words written alike.
        coder = Coder(ONE_ONE, [[("a", 1), ("a", 1)], [("a", 1), ("b", 1)]])
        self.assertEqual([window(coder), has_window(coder, 0, 5000), has_window(coder, 1, 0)], [(1, 0), False, True])
        two = Coder(ONE_ONE, [[("a", 1), ("b", 1)], [("a", 2), ("a", 2)], [("a", 2), ("b", 2)]])
        self.assertEqual([window(two), has_window(two, 1, 5000)], [(2, 0), False])

    def test_coders_of_pieces(self):
        met = {}
        for weights in [*few_weights(304, 200), Weights(narrow_ring(4), Rate(1, 1), [1, 2, 4, 8, 16, 8, 4, 2])]:
            coder = Pieces.of(weights).evened().coder()
            found = window(coder)
            self.check_least(coder, found)
            key = (memory(weights.medium) is not None, found is not None)
            met[key] = met.get(key, 0) + 1
        self.assertNotIn((True, False), met)
        self.assertGreater(met[True, True], 20)
        self.assertGreater(min(met[False, True], met[False, False]), 2)

    def test_0_and_5000(self):
        self.assertEqual([has_window(PAIR, 0, 0), has_window(PAIR, 5000, 5000), has_window(BLIND, 5000, 5000)],
                         [True, True, False])
        for value in (*NO_INTEGERS, -1, 5001, 10 ** 30):
            for coder in (PAIR, ring_of(65)):
                check_error(self, InvalidCount, has_window, coder, value, None, value=value)
                check_error(self, InvalidCount, has_window, coder, 0, value, value=value)
                check_error(self, InvalidCount, has_window, coder, 5000, value, value=value)

    def test_most_states(self):
        coder = ring_of(64)
        self.assertEqual([window(coder), has_window(coder, 0, 0)], [None, False])
        self.check_runs(coder, endless_runs(coder))
        more = ring_of(65)
        for call in (window, endless_runs):
            check_error(self, TooMany, call, more, what="states", limit=64)
        check_error(self, TooMany, has_window, more, 0, 0, what="states", limit=64)
        check_error(self, TooMany, is_endless_runs, more, None, what="states", limit=64)

    def test_many_words(self):
        random = Random(305)
        for p, states in ((6, 31), (5, 62)):
            for signs in ("a", "abcd"):
                codes = [[(random.choice(signs), (state + word) % states) for word in range(2 ** p)]
                         for state in range(states)]
                coder = Coder(Rate(p, 1), codes)
                self.assertIsNone(window(coder))
                self.check_runs(coder, endless_runs(coder))

    def test_no_coders(self):
        for value in NO_CODERS:
            for call in (window, endless_runs):
                check_error(self, InvalidCoder, call, value, value=value)
            check_error(self, InvalidCoder, has_window, value, None, None, value=value)
            check_error(self, InvalidCoder, is_endless_runs, value, None, value=value)


RUNS = ((0, [0, 0], [0], [0, 0]), (1, [1, 1], [1], [1, 1]))


class EndlessRuns(unittest.TestCase):
    def test_is_endless_runs(self):
        # Behind the state 0 the words are turned ones of those behind the state 1.
        yes = [RUNS, RUNS[::-1], ((0, [0, 0], [0], [1, 0]), (1, [1, 1], [1], [0, 1])),
               ((0, (0, 0), (0,), (0, 0)), (1, [1, 1], (1,), [1, 1])),
               ((1, [0, 0], [0, 1, 1], [0, 0]), (0, [1, 1], [1, 0, 0], [1, 1])),
               ((1, [0, 0] * 300, [0, 1, 1] * 200, [0, 0] * 50), (0, [1, 1] * 300, [1, 0, 0] * 200, [1, 1] * 50))]
        no = [((0, [0, 0], [0], [0, 0]), (0, [0, 0], [0], [0, 0])), ((0, [0, 0], [], [0, 0]), (1, [1, 1], [], [1, 1])),
              ((0, [], [0], [0, 0]), (1, [], [1], [1, 1])), ((0, [0, 0], [0], []), (1, [1, 1], [1], [])),
              ((0, [0], [0], [0, 0]), (1, [1], [1], [1, 1])), ((0, [0, 0], [0], [0]), (1, [1, 1], [1], [1])),
              ((0, [0, 0], [0], [0, 0]), (1, [1, 1], [0], [1, 1])),
              ((0, [0, 0], [0], [0, 0]), (1, [1, 0], [1], [1, 1])),
              ((0, [0, 0], [0], [0, 0]), (1, [1, 1], [1], [1, 0])),
              ((0, [0, 0], [0], [0, 0]), (1, [1, 1, 1, 1], [1], [1, 1])),
              ((0, [0, 0], [0], [0, 0]), (1, [1, 1], [1, 1], [1, 1])),
              ((0, [0, 0], [0], [0, 0]), (1, [1, 1], [1], [1, 1, 1, 1])),
              ((0, [0, 0], [0], [0, 0]),), (*RUNS, RUNS[0]), (), list(RUNS), [list(run) for run in RUNS],
              (list(RUNS[0]), RUNS[1]), (RUNS[0], list(RUNS[1])), (RUNS[0][:3], RUNS[1][:3]),
              ((*RUNS[0], []), (*RUNS[1], []))]
        for value in yes:
            self.assertTrue(is_plain_runs(TURNING.codes(), value), value)
            self.assertIs(is_endless_runs(TURNING, value), True, value)
            self.assertIs(is_endless_runs(value=value, coder=TURNING), True)
            self.assertIs(is_endless_runs(LATE, value), False)
        for value in [*no, *OTHERS, None, Thing()]:
            self.assertIs(is_endless_runs(TURNING, value), False, value)

    def test_wrong_in_one_place(self):
        for side in (0, 1):
            for place in range(4):
                values = [*NO_INTEGERS, -1, 2, 10 ** 30] if place == 0 else [
                    None, True, 0, "0", {0: 0}, {0}, [None, 0], [False, 0], [True, True], ["0", 0], [[0], 0], b"00",
                    [2, 0], [-1, 0], [10 ** 30, 0]]
                for value in values:
                    run = tuple(value if at == place else told for at, told in enumerate(RUNS[side]))
                    found = (run, RUNS[1]) if side == 0 else (RUNS[0], run)
                    self.assertIs(is_endless_runs(TURNING, found), False, found)

    def test_runs_that_come_apart(self):
        random = Random(306)
        met = {True: 0, False: 0}
        for _, _, coder in random_coders(307, 300):
            runs = endless_runs(coder)
            if runs is None:
                continue
            for _ in range(8):
                wrong = [[run[0], *[list(text) for text in run[1:]]] for run in runs]
                run = random.choice(wrong)
                place = random.randrange(4)
                if place == 0:
                    run[0] = random.randrange(len(coder))
                else:
                    run[place][random.randrange(len(run[place]))] = random.randrange(coder.rate.size)
                value = tuple(tuple(found) for found in wrong)
                told = is_plain_runs(coder.codes(), value)
                met[told] += 1
                self.assertIs(is_endless_runs(coder, value), told)
        self.assertGreater(min(met.values()), 50)

    def test_one_medium_without_memory(self):
        sums = Medium.sums(1, -1, low=-1, high=1)
        coder = Pieces.of(Weights(sums, Rate(1, 2), [1, 1, 1])).evened().coder()
        self.assertEqual([memory(sums), window(coder)], [None, (0, 0)])
