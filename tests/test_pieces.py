import unittest
from itertools import combinations
from random import Random

from barredrows.ahead import look_ahead
from barredrows.coders import Coder, fits
from barredrows.errors import InvalidChoice, InvalidNumber, InvalidPaper, NotEven, TooMany
from barredrows.media import Medium
from barredrows.papers import Rate, Weights
from barredrows.pieces import Pieces
from tests.helpers import NO_INTEGERS, OTHERS, Thing, all_rows, check_error, kinds, plain_sums, plain_walk
from tests.test_coders import followed
from tests.test_least import narrow_ring
from tests.test_sharing import NO_WEIGHTS, few_weights

BB = Medium.barring(2, "bb")
SUMS = Medium.sums(1, -1, low=-1, high=1)
WEIGHTS = Weights(BB, Rate(2, 3), [2, 1])
PIECES = Pieces.of(WEIGHTS)


def told(pieces):
    """All that pieces say of themselves."""
    return [pieces.numbers(), pieces.states(), [pieces.entries(piece) for piece in range(len(pieces))]]


def plain_ways(weights, state):
    table = weights.medium.table()
    ends = [(row, plain_walk(table, row, state)) for row in all_rows(weights.medium.signs, weights.rate.q)]
    return [(row, end) for row, end in ends if end is not None]


def plain_pieces(weights):
    """What the pieces of the weights say of themselves, by going on from state to state."""
    states = [state for state in range(len(weights)) if weights[state]]
    ends = {state: {end for _, end in plain_ways(weights, state) if weights[end]} for state in states}
    reached = {}
    for state in states:
        found = set(ends[state])
        while not all(ends[end] <= found for end in found):
            found = found.union(*[ends[end] for end in found])
        reached[state] = found
    # A set that no way leaves is all that is reached from each of its states.
    closed = [sorted(reached[state]) for state in states
              if all(reached[end] == reached[state] for end in reached[state])]
    chosen = min(found for found in closed if found)
    entries = [[(way, chosen.index(end)) for way, end in plain_ways(weights, state) if end in chosen]
               for state in chosen]
    return [[weights[state] for state in chosen], chosen, entries]


def plain_split(found, piece, chosen, size):
    """What pieces say of themselves behind a split."""
    numbers, states, entries = found
    last = len(numbers)
    total = sum(numbers[entries[piece][at][1]] for at in chosen)
    weight = total // size
    lists = [list(own) for own in entries]
    lists.append([entry for at, entry in enumerate(entries[piece]) if at not in chosen])
    lists[piece] = [entries[piece][at] for at in chosen]
    doubled = [[new for way, number in own for new in ([(way, piece), (way, last)] if number == piece
                                                      else [(way, number)])] for own in lists]
    numbers = numbers[:piece] + [weight] + numbers[piece + 1:] + [numbers[piece] - weight]
    return [numbers, states + [states[piece]], doubled]


def is_plain_choice(pieces, piece, chosen):
    numbers = pieces.numbers()
    total = sum(numbers[pieces.entries(piece)[at][1]] for at in chosen)
    size = pieces.rate.size
    return total % size == 0 and 1 <= total // size < numbers[piece]


def some_choices(pieces, random):
    """Some choices at any pieces."""
    found = []
    for piece in range(len(pieces)):
        many = len(pieces.entries(piece))
        for _ in range(20):
            chosen = sorted(random.sample(range(many), random.randrange(1, many + 1)))
            if is_plain_choice(pieces, piece, chosen):
                found.append((piece, chosen))
    return found


class OfWeights(unittest.TestCase):
    def test_against_a_plain_listing(self):
        met = {True: 0, False: 0}
        for weights in few_weights(91, 250):
            pieces = Pieces.of(weights)
            self.assertEqual(told(pieces), plain_pieces(weights))
            self.assertTrue(pieces.medium == weights.medium)
            self.assertTrue(pieces.rate == weights.rate)
            self.assertEqual(len(pieces), len(pieces.numbers()))
            self.assertIs(pieces.is_even, len(set(pieces.numbers())) == 1)
            met[len(pieces) == len([number for number in weights.numbers() if number])] += 1
            self.check_conditions(pieces)
        self.assertGreater(min(met.values()), 10)

    def check_conditions(self, pieces):
        """Each piece is one by [62]."""
        numbers, states = pieces.numbers(), pieces.states()
        table = pieces.medium.table()
        for piece in range(len(pieces)):
            entries = pieces.entries(piece)
            self.assertEqual(len(set(entries)), len(entries))
            self.assertGreaterEqual(numbers[piece], 1)
            self.assertGreaterEqual(sum(numbers[number] for _, number in entries), pieces.rate.size * numbers[piece])
            for way, number in entries:
                self.assertEqual(len(way), pieces.rate.q)
                self.assertEqual(plain_walk(table, way, states[piece]), states[number])

    def test_some(self):
        ways = [("aaa", 0), ("aab", 1), ("aba", 0), ("baa", 0), ("bab", 1)]
        self.assertEqual(told(PIECES), [[2, 1], [0, 1], [ways, ways[:3]]])
        self.assertEqual([len(PIECES), PIECES.is_even, PIECES.entries(piece=1)], [2, False, ways[:3]])
        self.assertTrue(Pieces.of(weights=WEIGHTS) == PIECES)
        self.assertEqual([kinds(PIECES.numbers()), kinds(PIECES.states()), kinds(PIECES.entries(1))],
                         [[list, int, int], [list, int, int], [list] + [tuple] * 3])

    def test_several_sets(self):
        # At 1:2 the state 0 is a set of its own, the states 1 and 2 are another one; no way leaves either.
        self.assertEqual(told(Pieces.of(Weights(SUMS, Rate(1, 2), [1, 1, 1])))[:2], [[1], [0]])
        self.assertEqual(told(Pieces.of(Weights(SUMS, Rate(1, 2), [0, 1, 1])))[:2], [[1, 1], [1, 2]])
        self.assertEqual(told(Pieces.of(Weights(SUMS, Rate(1, 2), [0, 3, 3])))[:2], [[3, 3], [1, 2]])
        # From the state 0, and only from there, ways lead to both of two sets.
        medium = Medium(4, [{"a": 1, "b": 2}, {"a": 1, "b": 1, "c": 1}, {"c": 2, "d": 2}])
        self.assertEqual(told(Pieces.of(Weights(medium, Rate(1, 1), [3, 2, 4]))),
                         [[2], [1], [[("a", 0), ("b", 0), ("c", 0)]]])
        self.assertEqual(told(Pieces.of(Weights(medium, Rate(1, 1), [1, 0, 4]))), [[4], [2], [[("c", 0), ("d", 0)]]])
        # A way to a state of weight 0 is none between the states that are considered.
        loop = Medium(3, [{"a": 0, "b": 0, "c": 1}, {"a": 1, "b": 2}, {"a": 1, "c": 2}])
        self.assertEqual(told(Pieces.of(Weights(loop, Rate(1, 1), [5, 0, 0])))[1:], [[0], [[("a", 0), ("b", 0)]]])
        self.assertEqual(told(Pieces.of(Weights(loop, Rate(1, 1), [5, 1, 1])))[:2], [[1, 1], [1, 2]])

    def test_most_weight(self):
        free = Medium.free(2)
        self.assertEqual(Pieces.of(Weights(free, Rate(1, 1), [64])).numbers(), [64])
        check_error(self, TooMany, Pieces.of, Weights(free, Rate(1, 1), [65]), what="weight", limit=64)
        # The total is that of all weights, not of those of the set alone.
        medium = Medium(3, [{"a": 0, "b": 1}, {"a": 1, "c": 1}])
        self.assertEqual(Pieces.of(Weights(medium, Rate(1, 1), [32, 32])).numbers(), [32])
        check_error(self, TooMany, Pieces.of, Weights(medium, Rate(1, 1), [32, 33]), what="weight", limit=64)
        check_error(self, TooMany, Pieces.of, Weights(free, Rate(6, 6), [65]), what="weight", limit=64)

    def test_most_entries(self):
        # 4 ** 5 ways with one weight each, and twice that; 3 ** 6 ways with the weights 2 and 3.
        four, three = Medium.free(4), Medium.free(3)
        self.assertEqual(len(Pieces.of(Weights(four, Rate(1, 5), [1])).entries(0)), 1024)
        check_error(self, TooMany, Pieces.of, Weights(four, Rate(1, 5), [2]), what="entries", limit=2000)
        self.assertEqual(len(Pieces.of(Weights(three, Rate(1, 6), [2])).entries(0)), 729)
        check_error(self, TooMany, Pieces.of, Weights(three, Rate(1, 6), [3]), what="entries", limit=2000)
        # What leads out of the set, and weights of other sets, are not counted.
        medium = Medium(4, [{"a": 1, "b": 2}, {sign: 1 for sign in "ab"}, {sign: 2 for sign in "abcd"}])
        self.assertEqual(told(Pieces.of(Weights(medium, Rate(1, 6), [1, 31, 1])))[:2], [[31], [1]])
        check_error(self, TooMany, Pieces.of, Weights(medium, Rate(1, 6), [1, 32, 1]), what="entries", limit=2000)
        check_error(self, TooMany, Pieces.of, Weights(medium, Rate(1, 6), [1, 0, 1]), what="entries", limit=2000)

    def test_exactly_2000(self):
        for medium, rate, numbers in ((Medium.barring(3, "bb"), Rate(3, 4), [23, 9]),
                                      (Medium.barring(4, "aa", "bb"), Rate(3, 3), [13, 11, 27])):
            weights = Weights(medium, rate, numbers)
            self.assertEqual(sum(plain_sums(medium, rate.q, numbers)), 2000)
            self.assertEqual(Pieces.of(weights).numbers(), numbers)
            more = Weights(medium, rate, [numbers[0] + 1, *numbers[1:]])
            check_error(self, TooMany, Pieces.of, more, what="entries", limit=2000)

    def test_no_weights(self):
        for value in NO_WEIGHTS:
            check_error(self, InvalidPaper, Pieces.of, value, value=value)


class Splits(unittest.TestCase):
    def test_each_choice(self):
        splits = 0
        for weights in few_weights(93, 150, 12):
            pieces = Pieces.of(weights)
            for piece in range(len(pieces)):
                if len(pieces.entries(piece)) <= 7:
                    splits += self.check_all(pieces, piece)
        self.assertGreater(splits, 100)

    def check_all(self, pieces, piece):
        """Split by all lists of positions that are choices; all others are refused."""
        before = told(pieces)
        many = len(pieces.entries(piece))
        splits = 0
        for chosen in [list(found) for size in range(many + 1) for found in combinations(range(many), size)]:
            if is_plain_choice(pieces, piece, chosen):
                made = pieces.split_at(piece, chosen)
                splits += 1
                self.assertEqual(told(made), plain_split(before, piece, chosen, pieces.rate.size))
                self.assertTrue(pieces.split_at(chosen=tuple(chosen), piece=piece) == made)
                OfWeights.check_conditions(self, made)
                self.assertEqual([len(made), sum(made.numbers())], [len(pieces) + 1, sum(pieces.numbers())])
            else:
                check_error(self, InvalidChoice, pieces.split_at, piece, chosen, value=chosen)
        self.assertEqual(told(pieces), before)
        return splits

    def test_some(self):
        made = PIECES.split_at(0, [0, 1, 4])
        self.assertEqual(told(made), [[1, 1, 1], [0, 1, 0], [
            [("aaa", 0), ("aaa", 2), ("aab", 1), ("bab", 1)],
            [("aaa", 0), ("aaa", 2), ("aab", 1), ("aba", 0), ("aba", 2)],
            [("aba", 0), ("aba", 2), ("baa", 0), ("baa", 2)]]])
        self.assertEqual([made.is_even, made.choice()], [True, None])
        self.assertEqual([made.evened() == made, made == PIECES], [True, False])

    def test_choices(self):
        met = {True: 0, False: 0}
        for weights in few_weights(94, 250):
            pieces = Pieces.of(weights)
            steps = 0
            while not pieces.is_even:
                found = pieces.choice()
                piece, chosen = found
                self.assertEqual(kinds(found), [tuple, int, list])
                self.assertEqual(pieces.numbers()[piece], max(pieces.numbers()))
                self.assertEqual(sorted(set(chosen)), chosen)
                self.assertTrue(is_plain_choice(pieces, piece, chosen))
                further = pieces.split_at(piece, chosen)
                self.assertEqual(told(further), plain_split(told(pieces), piece, chosen, weights.rate.size))
                pieces = further
                steps += 1
            met[steps > 0] += 1
            self.assertIsNone(pieces.choice())
            OfWeights.check_conditions(self, pieces)
        self.assertGreater(min(met.values()), 15)

    def test_evened_and_its_coder(self):
        met = {}
        for weights in [*few_weights(95, 250), Weights(narrow_ring(3), Rate(1, 1), [1, 2, 4, 8, 4, 2])]:
            begin = Pieces.of(weights)
            pieces = begin.evened()
            self.assertTrue(pieces.is_even)
            self.assertEqual(sum(pieces.numbers()), sum(begin.numbers()))
            self.assertTrue(pieces.medium == weights.medium and pieces.rate == weights.rate)
            OfWeights.check_conditions(self, pieces)
            for piece in (0, len(pieces) - 1):
                coder = pieces.coder(piece)
                self.check_coder(pieces, coder, piece)
                ahead = look_ahead(coder)
                self.assertIsNotNone(ahead)
                self.assertLessEqual(ahead, len(pieces) - len(begin))
                met[ahead] = met.get(ahead, 0) + 1
            self.assertTrue(pieces.coder() == pieces.coder(0))
        self.assertGreater(len(met), 3)

    def check_coder(self, pieces, coder, piece):
        """Its states are pieces, its words different entries of them."""
        medium = pieces.medium
        self.assertTrue(coder.rate == pieces.rate)
        self.assertEqual(coder.lead, medium.least_row(pieces.states()[piece]))
        self.assertTrue(fits(medium, coder))
        codes = coder.codes()
        found = {0: piece}
        for state in range(len(codes)):
            entries = pieces.entries(found[state])
            self.assertEqual(len(set(codes[state])), coder.rate.size)
            for block, to in codes[state]:
                if to not in found:
                    found[to] = [number for way, number in entries if way == block and number not in found.values()][0]
                self.assertIn((block, found[to]), entries)
        self.assertEqual(len(set(found.values())), len(codes))

    def test_any_splits_and_then_even(self):
        random = Random(96)
        met = 0
        for weights in few_weights(97, 200, 24):
            begin = Pieces.of(weights)
            pieces = begin
            for _ in range(3):
                choices = some_choices(pieces, random)
                if choices:
                    pieces = pieces.split_at(*random.choice(choices))
                    met += 1
            even = pieces.evened()
            self.assertTrue(even.is_even)
            OfWeights.check_conditions(self, even)
            self.assertEqual(sum(even.numbers()), sum(begin.numbers()))
            coder = even.coder(random.randrange(len(even)))
            self.assertTrue(fits(weights.medium, coder))
            self.assertLessEqual(look_ahead(coder), len(even) - len(begin))
        self.assertGreater(met, 40)

    def test_even_from_the_beginning(self):
        pieces = Pieces.of(Weights(SUMS, Rate(1, 2), [0, 3, 3]))
        self.assertEqual([pieces.is_even, pieces.choice(), pieces.evened() == pieces], [True, None, True])
        coder = pieces.coder()
        self.assertEqual([coder.lead, look_ahead(coder), len(coder)], ["a", 0, 2])
        self.assertEqual(pieces.coder(piece=1).lead, "b")
        self.assertEqual(followed(coder.codes(), [0, 1])[0][0], "ba")
        one = Pieces.of(Weights(Medium.free(2), Rate(1, 1), [64]))
        self.assertTrue(one.coder() == Coder(Rate(1, 1), [[("a", 0), ("b", 0)]]))

    def test_an_even_choice_is_a_choice_too(self):
        # Pieces that are even can still be split where the sum fits.
        pieces = Pieces.of(Weights(Medium.free(4), Rate(1, 1), [2]))
        made = pieces.split_at(0, [1])
        self.assertEqual(told(made), [[1, 1], [0, 0], [[("b", 0), ("b", 1)], [("a", 0), ("a", 1), ("c", 0), ("c", 1),
                                                                            ("d", 0), ("d", 1)]]])
        check_error(self, InvalidChoice, pieces.split_at, 0, [0, 1], value=[0, 1])

    def test_great_totals(self):
        for weights in (Weights(narrow_ring(4), Rate(1, 1), [1, 2, 4, 8, 16, 8, 4, 2]),
                        Weights(BB, Rate(2, 3), [39, 25]), Weights(BB, Rate(4, 6), [20, 13])):
            begin = Pieces.of(weights)
            pieces = begin.evened()
            self.assertEqual(set(pieces.numbers()), {pieces.numbers()[0]})
            self.assertEqual(sum(pieces.numbers()), sum(begin.numbers()))
            self.assertLessEqual(look_ahead(pieces.coder()), len(pieces) - len(begin))
            self.assertTrue(fits(weights.medium, pieces.coder()))

    def test_equal(self):
        self.assertIs(PIECES == Pieces.of(Weights(BB, Rate(2, 3), (2, 1))), True)
        two = Pieces.of(Weights(Medium.free(4), Rate(1, 1), [2]))
        others = [Pieces.of(WEIGHTS * 2), Pieces.of(Weights(BB, Rate(1, 3), [2, 1])), PIECES.split_at(0, [0, 1, 4]),
                  Pieces.of(Weights(Medium.barring(2, "aa"), Rate(1, 3), [2, 1])), *OTHERS, WEIGHTS, told(PIECES)]
        for value in others:
            self.assertIs(PIECES == value, False)
            self.assertIs(PIECES != value, True)
        self.assertFalse(two.split_at(0, [1]) == two.split_at(0, [0]))
        # The same entries of another medium, with other weights, for another rate, and of another state.
        few, more = [Medium(many, [{"a": 0, "b": 0}]) for many in (2, 3)]
        self.assertFalse(Pieces.of(Weights(few, Rate(1, 1), [2])) == Pieces.of(Weights(more, Rate(1, 1), [2])))
        free = Medium.free(4)
        self.assertFalse(Pieces.of(Weights(free, Rate(1, 1), [1])) == two)
        self.assertFalse(Pieces.of(Weights(free, Rate(2, 1), [2])) == two)
        self.assertTrue(Pieces.of(Weights(free, Rate(1, 1), [2])) == two)
        medium = Medium(3, [{"a": 0, "b": 0, "c": 1}, {"a": 1, "b": 1}])
        one, other = [Pieces.of(Weights(medium, Rate(1, 1), numbers)) for numbers in ([1, 0], [0, 1])]
        entries = [[("a", 0), ("b", 0)]]
        self.assertEqual([told(one), told(other)], [[[1], [0], entries], [[1], [1], entries]])
        self.assertFalse(one == other)
        self.assertTrue(two.split_at(0, [1]) == two.split_at(0, (1,)))

    def test_lists_are_new(self):
        before = told(PIECES)
        for found in told(PIECES)[:2] + told(PIECES)[2]:
            found.clear()
        chosen = [0, 1, 4]
        PIECES.split_at(0, chosen)
        self.assertEqual([told(PIECES), chosen], [before, [0, 1, 4]])


class WrongPieces(unittest.TestCase):
    def tearDown(self):
        """Behind each refusal the pieces are as they were."""
        self.assertEqual(told(PIECES), plain_pieces(WEIGHTS))
        self.assertEqual(WEIGHTS.numbers(), [2, 1])

    def test_no_numbers(self):
        for value in (*NO_INTEGERS, -1, 2, 10 ** 30):
            check_error(self, InvalidNumber, PIECES.entries, value, value=value)
            check_error(self, InvalidNumber, PIECES.split_at, value, None, value=value)
            check_error(self, InvalidNumber, PIECES.coder, value, value=value)

    def test_no_choices(self):
        for value in (*OTHERS, [], (), [0], [0, 1], [4, 1, 0], [0, 4, 1], [0, 0, 1], [1, 1, 1, 1], [0, 1, 5],
                      [-1, 0, 1], [0, 1, True], [False, 1, 4], [0, 1, "4"], [0, 1, None], [0, 1, [4]], "014",
                      {0: 1, 1: 1, 4: 1}, {0, 1, 4}, range(3), [0, 2, 3, 1, 4], [0, 1, 2, 3, 4],
                      [0, 1, 10 ** 30], 0, Thing()):
            check_error(self, InvalidChoice, PIECES.split_at, 0, value, value=value)
        # The weight 1 of the other piece cannot be split.
        for value in ([0, 1], [0, 1, 2], [0, 2]):
            check_error(self, InvalidChoice, PIECES.split_at, 1, value, value=value)
        # The whole weight, or more, may not be chosen: 8 is 4 times 2.
        double = Pieces.of(WEIGHTS * 2)
        self.assertEqual(double.numbers(), [4, 2])
        check_error(self, InvalidChoice, double.split_at, 0, [0, 1, 2, 3, 4], value=[0, 1, 2, 3, 4])
        check_error(self, InvalidChoice, double.split_at, 1, [0, 2], value=[0, 2])
        self.assertEqual(double.split_at(0, [0, 2]).numbers(), [2, 2, 2])
        free = Pieces.of(Weights(Medium.free(4), Rate(1, 1), [2]))
        check_error(self, InvalidChoice, free.split_at, 0, [0, 1, 2, 3], value=[0, 1, 2, 3])

    def test_not_even(self):
        check_error(self, NotEven, PIECES.coder)
        check_error(self, NotEven, PIECES.coder, 1)
        check_error(self, InvalidNumber, PIECES.coder, 2, value=2)
