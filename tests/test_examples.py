import doctest
import unittest
from pathlib import Path

from barredrows.ahead import look_ahead
from barredrows.alike import merged, parting_text
from barredrows.bits import packed, unpacked
from barredrows.coders import Coder, fits, misfit
from barredrows.counts import count, number_of, row_at, rows
from barredrows.damage import WindowReader, spoiled
from barredrows.desk import Desk
from barredrows.errors import InvalidNumbers
from barredrows.exact import paper, too_few
from barredrows.judge import certificate_of, is_certificate
from barredrows.judging import derived, loses_nothing, still_open
from barredrows.least import fallings, greatest_weights, needs
from barredrows.marks import join
from barredrows.media import Medium
from barredrows.memory import is_endless, memory
from barredrows.papers import Loads, Rate, Weights
from barredrows.parting import parting
from barredrows.pieces import Pieces
from barredrows.rates import profile
from barredrows.readers import Reader, closed, read_closed
from barredrows.sharing import shared
from barredrows.ways import parts, ways
from barredrows.windows import has_window, window
from tests.helpers import check_error


class Examples(unittest.TestCase):
    """The examples of the document."""

    def setUp(self):
        self.bb = Medium.barring(2, "bb")
        self.sums = Medium.sums(1, -1, low=-1, high=1)

    def test_stage_1(self):
        bb, sums = self.bb, self.sums
        told = [bb.table(), "aba" in bb, "abb" in bb, bb.after("ab"), len(bb & Medium.runs(2, a=2)),
                (bb >> "b").table()]
        self.assertEqual(told, [[{"a": 0, "b": 1}, {"a": 0}], True, False, 1, 4, [{"a": 1}, {"a": 1, "b": 0}]])
        told = [sums.table(), sums.is_within(bb), bb.is_within(Medium.free(2))]
        self.assertEqual(told, [[{"a": 1, "b": 2}, {"b": 0}, {"a": 0}], False, True])

    def test_stage_2(self):
        bb, sums = self.bb, self.sums
        told = [count(bb, 8), row_at(bb, 3, 2), number_of(bb, "bab"), list(rows(bb, 2, 1)), ways(bb, 3)]
        self.assertEqual(told, [55, "aba", 4, ["aa", "ab"], [[3, 2], [2, 1]]])
        told = [parts(sums), parts(sums, 2), memory(bb), memory(sums), is_endless(sums, ("", "a", "ba")),
                parting(bb, sums)]
        self.assertEqual(told, [[[0, 1, 2]], [[0], [1, 2]], 1, None, True, "aa"])

    def test_stage_3(self):
        bb, sums = self.bb, self.sums
        weights = Weights(bb, Rate(2, 3), [2, 1])
        told = [weights.slack(0), weights.slack(1), (weights * 2).numbers(), Loads(bb, Rate(3, 4), [3, 2]).slack(0)]
        self.assertEqual(told, [0, 1, [4, 2], 3])
        told = [paper(bb, Rate(2, 3)).says(), paper(bb, Rate(3, 4)).says(), too_few(bb, Rate(3, 4)),
                paper(sums, Rate(1, 2)).says()]
        self.assertEqual(told, ["weights", "loads", 2, "weights"])
        check_error(self, InvalidNumbers, Weights, bb, Rate(2, 3), [1, 1], position=1)

    def test_stage_4(self):
        bb, sums = self.bb, self.sums
        told = [fallings(bb, Rate(2, 3), 1), greatest_weights(bb, Rate(2, 3), 3).numbers(), needs(bb, Rate(2, 3))]
        self.assertEqual(told, [[[1, 1], [1, 0], [0, 0]], [3, 2], (2, 1)])
        self.assertEqual([profile(bb), profile(sums)], [[0, 1, 2, 2, 3, 4], [0, 1, 1, 2, 2, 3]])

    def test_stages_5_and_6(self):
        bb, sums = self.bb, self.sums
        weights = Weights(bb, Rate(2, 3), [2, 1])
        pair = Coder(Rate(1, 2), [[("ab", 0), ("ba", 0)]])
        told = [pair([0, 1, 1]), pair[0, 1], fits(sums, pair), misfit(bb, pair), len(pair)]
        self.assertEqual(told, ["abbaba", ("ba", 0), True, [0, 1], 1])
        share = shared(weights)
        told = [share.read_back(share.written([3, 0, 2])), share.tail_length(), fits(bb, share.coder()),
                share.read_back("bb")]
        self.assertEqual(told, [[3, 0, 2], 1, True, None])
        even = Pieces.of(weights).evened()
        code = even.coder()
        told = [even.numbers(), fits(bb, code), look_ahead(code), look_ahead(pair),
                read_closed(code, closed(code, [1, 2, 3]))]
        self.assertEqual(told, [[1, 1, 1], True, 1, 0, [1, 2, 3]])
        reader = Reader(pair)
        self.assertEqual([reader("ba"), reader("ab"), reader.words(), reader.pending], [[1], [0], [1, 0], 0])

    def test_stages_7_and_8(self):
        pair = Coder(Rate(1, 2), [[("ab", 0), ("ba", 0)]])
        told = [window(pair), has_window(pair, 3, 1), WindowReader(pair)(["ab", "aa", "ba"]),
                spoiled(pair, [0, 1, 1], 2, "a")]
        self.assertEqual(told, [(0, 0), True, [0, None, 1], [1]])
        told = [derived(self.sums, pair).numbers(), loses_nothing(pair), still_open(pair, "abba"),
                still_open(pair, "a")]
        self.assertEqual(told, [[1, 0, 0], True, 1, 0])
        double = Coder(Rate(1, 2), [[("ab", 1), ("ba", 0)], [("ab", 0), ("ba", 1)]])
        told = [parting_text(double, pair), merged(double) == pair, join(self.bb, "aaa", "aa"),
                join(self.bb, "aaa", "b")]
        self.assertEqual(told, [None, True, "b", ""])

    def test_stage_9(self):
        told = [packed(Rate(2, 3), [1, 0, 1]), packed(Rate(2, 3), [1, 0]), unpacked(Rate(2, 3), [2, 2])]
        self.assertEqual(told, [[2, 3], [2, 2], [1, 0]])
        claim = ("states", self.bb, Rate(2, 3), 2)
        told = [is_certificate(claim, certificate_of(claim)), is_certificate(claim, [[1, 1], [0, 0]]),
                certificate_of(("loads", self.bb, Rate(2, 3)))]
        self.assertEqual(told, [True, False, None])
        desk = Desk()
        told = desk.do_all("bar m 2 bb", "best m", "needs m 2:3", "paper m 3:4", "text t 0 1", "undo")
        self.assertEqual(told, ["2", "0 1 2 2 3 4", "2 1", "loads", "2", "done"])

    def test_readme(self):
        text = (Path(__file__).resolve().parent.parent / "README.md").read_text()
        # The end of a block of code would be read as a further line of what its last example tells.
        text = text.replace("\n```\n", "\n\n")
        example = doctest.DocTestParser().get_doctest(text, {}, "README.md", None, 0)
        self.assertGreater(len(example.examples), 10)
        self.assertEqual(doctest.DocTestRunner(verbose=False).run(example).failed, 0)
