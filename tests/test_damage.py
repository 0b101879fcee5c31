import unittest
from random import Random

from barredrows.coders import Coder
from barredrows.damage import WindowReader, damaged, spoiled
from barredrows.errors import (
    InvalidBlock,
    InvalidCoder,
    InvalidNumber,
    InvalidSign,
    InvalidText,
    NoWindow,
    TooMany,
)
from barredrows.papers import Rate
from barredrows.pieces import Pieces
from barredrows.windows import window
from tests.helpers import NO_INTEGERS, NO_ROWS, OTHERS, Thing, all_rows, check_error, kinds
from tests.test_ahead import BLIND, LATE, ONE_ONE, ring_of
from tests.test_coders import NO_CODERS, NO_TEXTS, PAIR, all_texts, followed, random_coders
from tests.test_sharing import few_weights
from tests.test_windows import AFTER, TOLD, TURNING, line

NO_SIGNS = (*NO_ROWS, "", "ab", "aa", "e", ["a"])
# The words of state 0 are told by the next block, those of the states 3 and 4 by the one before.
BOTH = Coder(Rate(1, 2), [[("aa", 1), ("aa", 2)], [("ca", 3), ("cb", 4)], [("da", 3), ("db", 4)],
                          [("ab", 0), ("ba", 0)], [("ba", 0), ("ab", 0)]])


def window_coders(seed, number):
    """Coders with a window, of any tables and of pieces."""
    coders = [coder for _, _, coder in random_coders(seed, number)]
    coders += [Pieces.of(weights).evened().coder() for weights in few_weights(seed + 1, number // 4)]
    return [coder for coder in coders if window(coder) is not None]


def plain_told(coder, blocks, behind, ahead):
    """What a window reader tells, from the texts with the blocks of each window from any state, word by word."""
    codes = coder.codes()
    found = []
    for at in range(len(blocks)):
        words = set()
        if at >= behind and at + ahead < len(blocks):
            states = set(range(len(codes)))
            for block in blocks[at - behind:at]:
                states = {to for state in states for same, to in codes[state] if same == block}
            for state in states:
                for word, (same, to) in enumerate(codes[state]):
                    ends = {to} if same == blocks[at] else set()
                    for block in blocks[at + 1:at + 1 + ahead]:
                        ends = {end for state in ends for same, end in codes[state] if same == block}
                    words |= {word} if ends else set()
        found.append(words)
    if any(len(words) > 1 for words in found):
        raise AssertionError("this is no window")
    return [min(words) if words else None for words in found]


def listed_told(coder, blocks, behind, ahead):
    """The same from a listing of all texts of the length of a window."""
    found = []
    for at in range(len(blocks)):
        around = blocks[at - behind:at + 1 + ahead] if at >= behind and at + ahead < len(blocks) else None
        words = {text[behind] for state in range(len(coder)) for text in all_texts(coder.rate.size, behind + 1 + ahead)
                 if followed(coder.codes(), text, state)[0] == around}
        found.append(min(words) if words else None)
    return found


def plain_damaged(blocks, place, sign):
    row = "".join(blocks)
    row = row[:place] + sign + row[place + 1:]
    begins = [sum(len(block) for block in blocks[:at]) for at in range(len(blocks))]
    return [row[begin:begin + len(block)] for begin, block in zip(begins, blocks)]


class WindowReaders(unittest.TestCase):
    def test_texts(self):
        random = Random(401)
        met = {}
        for coder in [PAIR, LATE, TOLD, AFTER, BOTH, line(3), *window_coders(402, 300)]:
            reader = WindowReader(coder)
            self.assertEqual((reader.behind, reader.ahead), window(coder))
            self.assertEqual(reader.spread, reader.behind + 1 + reader.ahead)
            self.assertIs(reader.source, coder)
            for many in (0, 1, reader.spread - 1, reader.spread, 12):
                text = [random.randrange(coder.rate.size) for _ in range(many)]
                blocks, _ = followed(coder.codes(), text, random.randrange(len(coder)))
                expected = [word if at >= reader.behind and at + reader.ahead < many else None
                            for at, word in enumerate(text)]
                self.assertEqual(reader(blocks), expected)
            met[reader.behind > 0, reader.ahead > 0] = True
        self.assertEqual(len(met), 4)

    def test_any_blocks(self):
        random = Random(403)
        met = {}
        for coder in [LATE, TOLD, AFTER, BOTH, line(2), *window_coders(404, 400)]:
            behind, ahead = window(coder)
            reader = WindowReader(coder)
            few = sorted({block for entries in coder.codes() for block, _ in entries})
            for _ in range(4):
                text = [random.randrange(coder.rate.size) for _ in range(9)]
                blocks, _ = followed(coder.codes(), text)
                for place in random.sample(range(9), 3):
                    blocks[place] = random.choice(few) if random.randrange(3) else random.choice(
                        all_rows("abcd", coder.rate.q))
                told = reader(blocks)
                self.assertEqual(told, plain_told(coder, blocks, behind, ahead))
                if coder.rate.size * len(coder) ** 2 * (behind + ahead) < 60:
                    self.assertEqual(told, listed_told(coder, blocks, behind, ahead))
                    met["listed"] = met.get("listed", 0) + 1
                inner = told[behind:9 - ahead]
                met[None in inner, inner != [None] * len(inner)] = True
        self.assertGreater(met["listed"], 100)
        self.assertGreaterEqual(len(met), 4)

    def test_all_blocks(self):
        for coder in (LATE, TOLD, AFTER, line(1)):
            behind, ahead = window(coder)
            for many in range(5):
                for text in all_texts(4, many):
                    blocks = ["abcd"[sign] for sign in text]
                    self.assertEqual(WindowReader(coder)(blocks), listed_told(coder, blocks, behind, ahead))

    def test_some(self):
        reader = WindowReader(coder=PAIR)
        self.assertEqual([reader(["ab", "aa", "ba"]), reader(blocks=[]), reader(("ba",))], [[0, None, 1], [], [1]])
        self.assertEqual(kinds(reader(["ab", "aa", "ba"])), [list, int, type(None), int])
        self.assertEqual([WindowReader(LATE)(["a"]), WindowReader(LATE)(["b", "b", "a"])], [[None], [1, 0, None]])
        both = WindowReader(BOTH)
        self.assertEqual([both.behind, both.ahead, both.spread, window(BOTH)], [1, 1, 3, (1, 1)])
        # Lists that are shorter than the spread, and just as long.
        for many in (0, 1, 2):
            self.assertEqual(both(["aa", "ca"][:many]), [None] * many)
        blocks, _ = followed(BOTH.codes(), [1, 0, 1, 1, 0])
        self.assertEqual([blocks, both(blocks[:3]), both(blocks)],
                         [["aa", "da", "ba", "aa", "da"], [None, 0, None], [None, 0, 1, 1, None]])
        given = both(["ab"])
        given.append(1)
        self.assertEqual(both(["ab"]), [None])

    def test_what_was_passed_stays(self):
        blocks = ["ab", "ba"]
        WindowReader(PAIR)(blocks)
        damaged(blocks, 1, "d")
        self.assertEqual(blocks, ["ab", "ba"])

    def test_400_blocks(self):
        random = Random(405)
        for coder in (BOTH, line(20)):
            text = [random.randrange(2) for _ in range(400)]
            reader = WindowReader(coder)
            blocks, _ = followed(coder.codes(), text)
            self.assertEqual(reader(blocks)[reader.behind:400 - reader.ahead],
                             text[reader.behind:400 - reader.ahead])


class Damaged(unittest.TestCase):
    def test_against_the_row(self):
        random = Random(406)
        for _ in range(200):
            blocks = ["".join(random.choice("abcd") for _ in range(random.randrange(4))) for _ in range(6)]
            for place in range(sum(len(block) for block in blocks)):
                sign = random.choice("abcd")
                expected = plain_damaged(blocks, place, sign)
                self.assertEqual(damaged(blocks, place, sign), expected)
                self.assertEqual(damaged(tuple(blocks), place, sign), expected)

    def test_some(self):
        self.assertEqual([damaged(["ab", "", "cde"[:1]], 2, "d"), damaged(["ab"], 0, "b"), damaged(["ab"], 0, "a")],
                         [["ab", "", "d"], ["bb"], ["ab"]])
        self.assertEqual(damaged(sign="d", place=1, blocks=["", "ab", ""]), ["", "ad", ""])
        blocks = ["ab"]
        self.assertIsNot(damaged(blocks, 0, "a"), blocks)
        self.assertEqual(kinds(damaged(("ab", "c"), 0, "a")), [list, str, str])

    def test_wrong_places_and_signs(self):
        for blocks in ([], [""], ["ab", "", "c"], ("ab", "c")):
            many = sum(len(block) for block in blocks)
            for value in (*NO_INTEGERS, -1, many, many + 1, 10 ** 30):
                check_error(self, InvalidNumber, damaged, blocks, value, "a", value=value)
                check_error(self, InvalidNumber, damaged, blocks, value, None, value=value)
            if many:
                for value in NO_SIGNS:
                    check_error(self, InvalidSign, damaged, blocks, 0, value, value=value)


class Spoiled(unittest.TestCase):
    def test_within_the_spread(self):
        random = Random(407)
        widest = 0
        changes = 0
        for coder in [PAIR, LATE, TOLD, AFTER, BOTH, line(2), *window_coders(408, 200)]:
            reader = WindowReader(coder)
            text = [random.randrange(coder.rate.size) for _ in range(12)]
            blocks, _ = followed(coder.codes(), text)
            for place in random.sample(range(12 * coder.rate.q), 6):
                for sign in "abcd":
                    changed = plain_damaged(blocks, place, sign)
                    told = plain_told(coder, blocks, reader.behind, reader.ahead)
                    other = plain_told(coder, changed, reader.behind, reader.ahead)
                    found = spoiled(coder, text, place, sign)
                    self.assertEqual(found, [at for at in range(12) if told[at] != other[at]])
                    block = place // coder.rate.q
                    if blocks == changed:
                        self.assertEqual(found, [])
                    self.assertTrue(all(block - reader.ahead <= at <= block + reader.behind for at in found))
                    if found:
                        self.assertLessEqual(found[-1] - found[0] + 1, reader.spread)
                        changes += 1
                        widest = max(widest, len(found))
        self.assertGreater(changes, 200)
        self.assertGreater(widest, 2)

    def test_some(self):
        self.assertEqual([spoiled(PAIR, [0, 1, 1], 2, "a"), spoiled(PAIR, [0, 1, 1], 2, "b"),
                          spoiled(PAIR, (0, 1, 1), 0, "b")], [[1], [], [0]])
        self.assertEqual(spoiled(sign="c", place=1, text=[0, 0, 0, 0], coder=LATE), [0, 1])
        self.assertEqual(kinds(spoiled(LATE, [0, 0, 0, 0], 1, "b")), [list, int])
        # With a lead the places are those of the blocks alone.
        leading = Coder(ONE_ONE, TOLD.codes(), "ddd")
        self.assertEqual([spoiled(leading, [0, 0], 1, "d"), spoiled(leading, [0, 0], 0, "b")], [[1], [0]])
        check_error(self, InvalidNumber, spoiled, leading, [0, 0], 2, "d", value=2)
        self.assertEqual(spoiled(PAIR, [1] * 200, 399, "b"), [199])

    def test_wrong_places_and_signs(self):
        for coder in (PAIR, TURNING, ring_of(65)):
            length = coder.rate.q
            for value in (*NO_INTEGERS, -1, 3 * length, 10 ** 30):
                check_error(self, InvalidNumber, spoiled, coder, [0, 1, 1], value, None, value=value)
            check_error(self, InvalidNumber, spoiled, coder, [], 0, "a", value=0)
            for value in NO_SIGNS:
                check_error(self, InvalidSign, spoiled, coder, [0, 1, 1], 3 * length - 1, value, value=value)


class Wrong(unittest.TestCase):
    def test_no_blocks(self):
        for coder in (PAIR, LATE, BOTH):
            length = coder.rate.q
            reader = WindowReader(coder)
            for value in (*OTHERS, *NO_INTEGERS):
                if not isinstance(value, (list, tuple)):
                    check_error(self, InvalidBlock, reader, value, value=value)
            good = coder[0, 0][0]
            for value in (*OTHERS, *NO_INTEGERS, "", "a" * (length - 1), "a" * (length + 1), "e" * length,
                          ["a"] * length, b"a" * length, "ab\n"):
                check_error(self, InvalidBlock, reader, [good, value], value=value)
                check_error(self, InvalidBlock, reader, (value, None), value=value)
            for value in ({"ab": 0}, {good}, good, range(2)):
                check_error(self, InvalidBlock, reader, value, value=value)

    def test_no_window(self):
        for coder in (BLIND, TURNING, ring_of(64)):
            check_error(self, NoWindow, WindowReader, coder)
            check_error(self, NoWindow, spoiled, coder, [0], 0, "a")

    def test_most_states(self):
        more = ring_of(65)
        check_error(self, TooMany, WindowReader, more, what="states", limit=64)
        check_error(self, TooMany, spoiled, more, [0, 1], 1, "a", what="states", limit=64)
        most = Coder(ONE_ONE, [[("ab"[word], (state + 1) % 64) for word in (0, 1)] for state in range(64)])
        self.assertEqual([len(most), WindowReader(most)(["b", "a", "c"]), spoiled(most, [0, 1], 1, "a")],
                         [64, [1, 0, None], [1]])

    def test_no_coders_no_texts(self):
        for value in NO_CODERS:
            check_error(self, InvalidCoder, WindowReader, value, value=value)
            check_error(self, InvalidCoder, spoiled, value, None, None, None, value=value)
        for value in NO_TEXTS:
            for coder in (PAIR, TURNING, ring_of(65)):
                check_error(self, InvalidText, spoiled, coder, value, None, None, position=None)
        for word in (*NO_INTEGERS, -1, 2, Thing()):
            check_error(self, InvalidText, spoiled, PAIR, [0, word, None], None, None, position=1)
