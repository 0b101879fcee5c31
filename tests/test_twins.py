import unittest

from barredrows.coders import Coder
from barredrows.papers import Rate
from barredrows.twins import groups_of, most_steps, pairs_further, sources_of, twin_steps, word_pair, words_along
from tests.test_ahead import LATE
from tests.test_coders import random_coders

# From the state 0 two words lead with the same block to one state, and a third one to another.
CODER = Coder(Rate(2, 1), [[("a", 1), ("a", 1), ("a", 2), ("b", 0)], [("b", 2), ("a", 2), ("b", 2), ("c", 2)],
                           [("d", 0), ("d", 0), ("d", 0), ("d", 0)]])


def plain_steps(codes, pair):
    """All pairs of words with the same block, with the pair to which they lead."""
    return [((to, beside), (word, other)) for word, (block, to) in enumerate(codes[pair[0]])
            for other, (same, beside) in enumerate(codes[pair[1]]) if block == same]


def plain_most(codes, most):
    """How many steps can be taken from each pair, by taking them, where these are fewer than most."""
    pairs = [(one, other) for one in range(len(codes)) for other in range(len(codes))]
    steps = {pair: {to for to, _ in plain_steps(codes, pair)} for pair in pairs}
    found = {}
    left = set(pairs)
    for number in range(most):
        further = {pair for pair in left if steps[pair] & left}
        found.update({pair: number for pair in left - further})
        left = further
    return found


class Twins(unittest.TestCase):
    def test_groups_and_sources(self):
        groups = groups_of(CODER)
        self.assertEqual(groups, [{"a": {1: [0, 1], 2: [2]}, "b": {0: [3]}},
                                  {"b": {2: [0, 2]}, "a": {2: [1]}, "c": {2: [3]}}, {"d": {0: [0, 1, 2, 3]}}])
        self.assertEqual([{block: list(states) for block, states in found.items()} for found in sources_of(groups)],
                         [{"b": [0], "d": [2]}, {"a": [0]}, {"a": [0, 1], "b": [1], "c": [1]}])

    def test_words_that_differ_if_they_can(self):
        for words, others, found in (([0], [0], (0, 0)), ([0], [1], (0, 1)), ([0, 1], [0], (1, 0)),
                                     ([0], [0, 1], (0, 1)),
                                     ([0, 1], [0, 1], (1, 0)), ([0, 1], [1], (0, 1)), ([1], [0, 1], (1, 0))):
            self.assertEqual(word_pair(words, others), found)

    def test_steps(self):
        self.assertEqual(list(twin_steps(groups_of(LATE), (0, 0))),
                         [((0, 0), (0, 0)), ((0, 1), (0, 1)), ((1, 0), (1, 0)), ((1, 1), (1, 1))])
        for _, _, coder in random_coders(1201, 150):
            codes = coder.codes()
            groups = groups_of(coder)
            sources = sources_of(groups)
            for one in range(len(coder)):
                for other in range(len(coder)):
                    plain = plain_steps(codes, (one, other))
                    found = list(twin_steps(groups, (one, other)))
                    self.assertTrue(set(found) <= set(plain))
                    self.assertEqual({to for to, _ in found}, {to for to, _ in plain})
                    self.assertEqual({to for to, words in found if words[0] != words[1]},
                                     {to for to, words in plain if words[0] != words[1]})
                    self.assertEqual(set(pairs_further(groups, (one, other))), {to for to, _ in plain})
                    for further, _ in plain:
                        self.assertIn((one, other), pairs_further(sources, further))

    def test_most_steps(self):
        met = {}
        for _, _, coder in random_coders(1202, 150):
            groups = groups_of(coder)
            sources = sources_of(groups)
            size = len(coder)
            found = most_steps(groups, sources)
            self.assertEqual(found, plain_most(coder.codes(), size * size + 1))
            back = most_steps(sources, groups)
            for one in range(size):
                for other in range(size):
                    steps = pairs_further(sources, (one, other))
                    if (one, other) in back:
                        self.assertEqual(back[one, other], max([back[pair] + 1 for pair in steps], default=0))
                    else:
                        self.assertTrue([pair for pair in steps if pair not in back])
            met.update({number: True for number in found.values()})
        self.assertGreater(len(met), 2)

    def test_words_along(self):
        groups = groups_of(CODER)
        one, other = words_along(groups, [(0, 0), (1, 2)])
        self.assertEqual([one[0] in (0, 1), other], [True, [2]])
        self.assertEqual(words_along(groups, [(0, 0)]), ([], []))
