import doctest
import unittest
from pathlib import Path

from barredrows.counts import count, number_of, row_at, rows
from barredrows.media import Medium
from barredrows.parting import parting
from barredrows.ways import parts, ways


class Examples(unittest.TestCase):
    """The examples of the document, as far as they need what there is."""

    def setUp(self):
        self.bb = Medium.barring(2, "bb")
        self.sums = Medium.sums(1, -1, low=-1, high=1)

    def test_stage_1(self):
        bb, sums = self.bb, self.sums
        told = [bb.table(), "aba" in bb, "abb" in bb, bb.after("ab"), len(bb & Medium.runs(2, a=2)),
                (bb >> "b").table()]
        self.assertEqual(told, [[{"a": 0, "b": 1}, {"a": 0}], True, False, 1, 4, [{"a": 1}, {"a": 1, "b": 0}]])
        told = [sums.table(), sums.is_within(bb), bb.is_within(Medium.free(2))]
        self.assertEqual(told, [[{"a": 1, "b": 2}, {"b": 0}, {"a": 0}], False, True])

    def test_stage_2(self):
        bb, sums = self.bb, self.sums
        told = [count(bb, 8), row_at(bb, 3, 2), number_of(bb, "bab"), list(rows(bb, 2, 1)), ways(bb, 3)]
        self.assertEqual(told, [55, "aba", 4, ["aa", "ab"], [[3, 2], [2, 1]]])
        told = [parts(sums), parts(sums, 2), parting(bb, sums)]
        self.assertEqual(told, [[[0, 1, 2]], [[0], [1, 2]], "aa"])

    def test_readme(self):
        text = (Path(__file__).resolve().parent.parent / "README.md").read_text()
        # The end of a block of code would be read as a further line of what its last example tells.
        text = text.replace("\n```\n", "\n\n")
        example = doctest.DocTestParser().get_doctest(text, {}, "README.md", None, 0)
        self.assertGreater(len(example.examples), 10)
        self.assertEqual(doctest.DocTestRunner(verbose=False).run(example).failed, 0)
