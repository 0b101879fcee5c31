import unittest
from random import Random

from barredrows.ahead import look_ahead
from barredrows.coders import Coder
from barredrows.errors import InvalidBlock, InvalidCoder, InvalidText, Lost, NoLookAhead, TooMany
from barredrows.media import Medium
from barredrows.papers import Rate, Weights
from barredrows.pieces import Pieces
from barredrows.readers import Reader, closed, read_closed, tried_reader
from tests.helpers import NO_INTEGERS, NO_ROWS, OTHERS, all_rows_to, check_error, kinds
from tests.test_ahead import BLIND, LATE, ONE_ONE, chain, plain_enough, ring_of
from tests.test_coders import NO_CODERS, NO_TEXTS, PAIR, all_texts, followed, random_coders, texts_to
from tests.test_least import narrow_ring
from tests.test_sharing import few_weights

BB = Medium.barring(2, "bb")
EVEN = Pieces.of(Weights(BB, Rate(2, 3), [2, 1])).evened().coder()
LEADING = Coder(ONE_ONE, LATE.codes(), "dc")


def piece_coders(seed, number):
    """Coders of even pieces."""
    return [Pieces.of(weights).evened().coder() for weights in few_weights(seed, number)]


def ahead_coders(seed, number):
    """Coders of other tables that have a look-ahead."""
    coders = [coder for _, _, coder in random_coders(seed, number)]
    return [coder for coder in coders if look_ahead(coder) is not None]


def plain_row(coder, text):
    blocks, _ = followed(coder.codes(), text)
    return coder.lead + "".join(blocks)


def plain_closed(coder, text, ahead):
    return plain_row(coder, list(text) + [0] * ahead)


def has_text(coder, blocks):
    """Whether some text from state 0 has these blocks, by following all states at once."""
    codes = coder.codes()
    states = {0}
    for block in blocks:
        states = {to for state in states for found, to in codes[state] if found == block}
    return bool(states)


def told(reader):
    """What a Reader tells of itself, and of a copy what it makes of some further blocks."""
    twin = reader.copy()
    found = [reader.words(), reader.pending]
    for block in [block for entries in reader.source.codes()[:3] for block, _ in entries[:3]]:
        try:
            found.append(twin(block))
        except Lost as error:
            found.append(("lost", error.position))
    return found


class ClosedRows(unittest.TestCase):
    def test_read_back(self):
        random = Random(201)
        met = {}
        for coder in [*piece_coders(202, 120), *ahead_coders(203, 200)]:
            ahead = look_ahead(coder)
            size = coder.rate.size
            met[ahead] = met.get(ahead, 0) + 1
            texts = texts_to(size, 3 if size == 2 else 1)
            texts += [[random.randrange(size) for _ in range(many)] for many in (5, 30, 200 - ahead)]
            for text in texts:
                row = closed(coder, text)
                self.assertEqual(row, plain_closed(coder, text, ahead))
                self.assertEqual(read_closed(coder, row), text)
                if coder.rate.q > 1 and row:
                    self.assertIsNone(read_closed(coder, row[:-1]))
                    self.assertIsNone(read_closed(coder, row + "a"))
        self.assertGreater(min(met[0], met[1], met[2]), 5)
        self.assertGreater(len(met), 4)

    def test_rows_of_a_length(self):
        """All other rows are told apart."""
        met = {True: 0, False: 0}
        for coder in [LATE, LEADING, EVEN, chain(1), chain(2), *ahead_coders(204, 250)]:
            if coder.rate.size > 4 or coder.rate.q > 3 or (coder.rate.size == 4 and coder.rate.q == 1):
                continue
            ahead = look_ahead(coder)
            signs = "".join(sorted({sign for entries in coder.codes() for block, _ in entries for sign in block}))
            length = 7 if len(signs) <= 2 else 5 if len(signs) == 3 else 4
            if len(coder.lead) > 1:
                continue
            most = length // coder.rate.q
            rows = {plain_closed(coder, text, ahead): text for text in texts_to(coder.rate.size, most)}
            for row in all_rows_to(signs, length):
                found = read_closed(coder, row)
                self.assertEqual(found, rows.get(row))
                met[found is not None] += 1
        self.assertGreater(min(met.values()), 300)

    def test_some(self):
        self.assertEqual([closed(PAIR, [0, 1]), closed(PAIR, []), closed(LATE, []), closed(LATE, [1, 1])],
                         ["abba", "", "a", "abb"])
        self.assertEqual([closed(LEADING, []), closed(LEADING, [1])], ["dca", "dcab"])
        self.assertEqual([read_closed(PAIR, ""), read_closed(LATE, "a"), read_closed(LATE, "abb")], [[], [], [1, 1]])
        self.assertEqual([read_closed(LATE, ""), read_closed(LATE, "b"), read_closed(PAIR, "aa")], [None] * 3)
        # The text must be closed by words 0: here its last word is 1, or there are too few of them.
        two = chain(2)
        self.assertEqual([look_ahead(two), closed(two, [1])], [2, plain_row(two, [1, 0, 0])])
        self.assertEqual(read_closed(two, plain_row(two, [1, 0, 0])), [1])
        self.assertIsNone(read_closed(two, plain_row(two, [1, 0, 1])))
        self.assertIsNone(read_closed(two, plain_row(two, [1, 1, 0])))
        self.assertIsNone(read_closed(two, plain_row(two, [1])))
        self.assertEqual([closed(text=[1], coder=LATE), read_closed(value="ab", coder=LATE)], ["ab", [1]])
        self.assertEqual(closed(LATE, (1, 1)), "abb")
        found = read_closed(LATE, "abb")
        self.assertEqual(kinds(found), [list, int, int])
        self.assertIsNot(read_closed(LATE, "abb"), found)

    def test_ahead_of_the_lead(self):
        for value in ("", "d", "dc", "dd", "cd", "cda", "ddca", "a", "ab"):
            self.assertIsNone(read_closed(LEADING, value))
        self.assertEqual([read_closed(LEADING, "dca"), read_closed(LEADING, "dcab")], [[], [1]])
        free = Coder(ONE_ONE, [[("a", 0), ("b", 0)]], "ab" * 1000)
        self.assertEqual([read_closed(free, "ab" * 1000), read_closed(free, "ab" * 999)], [[], None])
        self.assertEqual(read_closed(free, closed(free, [1, 0, 1])), [1, 0, 1])

    def test_200_words(self):
        for coder in (PAIR, LATE, LEADING, chain(2), chain(31), EVEN):
            ahead = look_ahead(coder)
            text = [1, 0, 0, 1, 1] * 40
            self.assertEqual(read_closed(coder, closed(coder, text[:200 - ahead])), text[:200 - ahead])
            if ahead > 0:
                check_error(self, TooMany, closed, coder, text[:201 - ahead], what="words", limit=200)
                check_error(self, TooMany, closed, coder, text, what="words", limit=200)
            check_error(self, InvalidText, closed, coder, text + [1], position=None)
            # The row of more words would be read, but none of them is a closed row.
            more = plain_closed(coder, text[:200 - ahead] + [0], ahead)
            self.assertIsNone(read_closed(coder, more))
            self.assertIsNone(read_closed(coder, more + "a" * 500))

    def test_no_rows(self):
        for value in (*OTHERS, *NO_ROWS, ["a", "b"], "abx", "AB", b"ab"):
            for coder in (PAIR, LATE):
                self.assertIsNone(read_closed(coder, value))


class Readers(unittest.TestCase):
    def test_each_word_with_its_block(self):
        random = Random(205)
        for coder in [*piece_coders(206, 120), *ahead_coders(207, 200), chain(5)]:
            ahead = look_ahead(coder)
            text = [random.randrange(coder.rate.size) for _ in range(ahead + random.randrange(20))]
            reader = Reader(coder)
            self.assertIs(reader.source, coder)
            for number, block in enumerate(followed(coder.codes(), text)[0]):
                self.assertEqual([reader.words(), reader.pending], [text[:max(number - ahead, 0)], min(number, ahead)])
                self.assertEqual(reader(block), [text[number - ahead]] if number >= ahead else [])
            self.assertEqual(reader.words(), text[:len(text) - ahead])
            self.assertEqual(reader.pending, ahead)

    def test_all_texts(self):
        for coder in (LATE, chain(1), chain(2), chain(3), EVEN, *ahead_coders(208, 40)):
            ahead = look_ahead(coder)
            self.assertTrue(plain_enough(coder.codes(), coder.rate.size, ahead))
            for text in all_texts(coder.rate.size, 6 if coder.rate.size == 2 else 2):
                reader = Reader(coder)
                words = [reader(block) for block in followed(coder.codes(), text)[0]]
                late = min(ahead, len(text))
                self.assertEqual(words, [[]] * late + [[word] for word in text[:len(text) - late]])

    def test_lost(self):
        random = Random(209)
        met = {}
        for coder in [*piece_coders(210, 60), *ahead_coders(211, 120), LATE, chain(3)]:
            blocks = sorted({block for entries in coder.codes() for block, _ in entries})
            for _ in range(6):
                reader = Reader(coder)
                came = []
                for number in range(12):
                    block = random.choice(blocks)
                    if has_text(coder, [*came, block]):
                        reader(block)
                        came.append(block)
                    else:
                        before = told(reader)
                        check_error(self, Lost, reader, block, position=number)
                        check_error(self, Lost, reader, block, position=number)
                        self.assertEqual(told(reader), before)
                        met[number] = True
                        break
        self.assertGreater(len(met), 5)

    def test_goes_on_behind_lost(self):
        reader = Reader(LATE)
        self.assertEqual([reader("a"), reader("a")], [[], [0]])
        check_error(self, Lost, Reader(LATE), "b", position=0)
        check_error(self, Lost, reader, "c", position=2)
        check_error(self, Lost, reader, "d", position=2)
        self.assertEqual([reader("b"), reader("a"), reader.words(), reader.pending], [[1], [0], [0, 1, 0], 1])
        check_error(self, Lost, reader, "d", position=4)

    def test_some(self):
        reader = Reader(coder=PAIR)
        self.assertEqual([reader.words(), reader.pending], [[], 0])
        self.assertEqual([reader(block="ba"), reader("ab"), reader.words(), reader.pending], [[1], [0], [1, 0], 0])
        self.assertEqual([kinds(reader("ba")), kinds(reader.words())], [[list, int], [list, int, int, int]])
        # It begins behind the lead.
        reader = Reader(LEADING)
        self.assertEqual([reader("a"), reader("b"), reader.pending], [[], [1], 1])

    def test_lists_are_new(self):
        reader = Reader(LATE)
        given = [reader("a"), reader("b"), reader.words()]
        for found in given:
            found.append(7)
        self.assertEqual([reader.words(), reader("b")], [[1], [1]])
        self.assertEqual(len({id(found) for found in [reader.words(), reader.words(), reader.copy().words()]}), 3)

    def test_300_blocks(self):
        random = Random(212)
        for coder in (PAIR, LATE, EVEN, chain(31)):
            text = [random.randrange(coder.rate.size) for _ in range(300)]
            reader = Reader(coder)
            for block in followed(coder.codes(), text)[0]:
                reader(block)
            self.assertEqual(reader.words(), text[:300 - look_ahead(coder)])


class Copies(unittest.TestCase):
    def test_copies_go_on_by_themselves(self):
        for coder in (LATE, chain(3), EVEN, *piece_coders(213, 20)):
            ahead = look_ahead(coder)
            first, second = [1, 0, 1, 1, 0, 1, 0, 0], [1, 0, 1, 1, 1, 0, 1, 1]
            reader = Reader(coder)
            for block in followed(coder.codes(), first)[0][:4]:
                reader(block)
            before = told(reader)
            twin = reader.copy()
            self.assertIsNot(twin, reader)
            self.assertIs(twin.__class__, Reader)
            self.assertIs(twin.source, coder)
            self.assertEqual(told(twin), before)
            for block in followed(coder.codes(), second)[0][4:]:
                twin(block)
            self.assertEqual(told(reader), before)
            for block in followed(coder.codes(), first)[0][4:]:
                reader(block)
            self.assertEqual([reader.words(), twin.words()], [first[:8 - ahead], second[:8 - ahead]]
                             if ahead <= 8 else [[], []])

    def test_copy_in_a_block(self):
        reader = Reader(LATE)
        reader("a")
        with reader as one:
            one("b")
            twin = one.copy()
        self.assertEqual([twin.words(), reader.words(), twin("b"), reader("a")], [[1], [], [1], [0]])


class Blocks(unittest.TestCase):
    def setUp(self):
        self.reader = Reader(LATE)
        self.reader("a")
        self.reader("b")
        self.before = told(self.reader)

    def tearDown(self):
        """Behind each block of statements the reader is as it was."""
        self.assertEqual(told(self.reader), self.before)

    def go_on(self, reader):
        self.assertEqual([reader("b"), reader("a"), reader.words(), reader.pending], [[1], [0], [1, 1, 0], 1])
        return "told"

    def test_with(self):
        with self.reader as one:
            self.assertIs(one, self.reader)
            self.go_on(one)

    def test_with_again(self):
        with self.reader as one:
            self.go_on(one)
        with self.reader as one:
            self.go_on(one)
        self.reader("a")
        words = self.reader.words()
        with self.reader:
            self.reader("b")
            self.reader("a")
        self.assertEqual([self.reader.words(), self.reader.pending], [words, 1])
        self.setUp()

    def test_with_errors(self):
        error = KeyError("x")
        with self.assertRaises(KeyError) as caught:
            with self.reader as one:
                self.go_on(one)
                raise error
        self.assertIs(caught.exception, error)
        with self.assertRaises(Lost):
            with self.reader:
                self.go_on(self.reader)
                self.reader("d")

    def test_lost_within(self):
        with self.reader as one:
            one("a")
            check_error(self, Lost, one, "c", position=3)
            self.assertEqual([one.words(), one.pending], [[1, 0], 1])

    def test_tried(self):
        self.assertEqual(tried_reader(self.reader, self.go_on), "told")
        self.assertEqual(tried_reader(action=self.go_on, reader=self.reader), "told")
        self.assertIs(tried_reader(self.reader, lambda reader: reader), self.reader)
        self.assertIsNone(tried_reader(self.reader, lambda reader: None))

    def test_tried_with_an_error(self):
        error = ValueError("x")

        def action(reader):
            self.go_on(reader)
            raise error

        with self.assertRaises(ValueError) as caught:
            tried_reader(self.reader, action)
        self.assertIs(caught.exception, error)

    def test_two_readers(self):
        other = Reader(PAIR)
        with self.reader as one, other as two:
            one("a")
            two("ba")
        self.assertEqual([other.words(), other.pending], [[], 0])


class Wrong(unittest.TestCase):
    def test_no_blocks(self):
        for coder in (PAIR, LATE, chain(2)):
            length = coder.rate.q
            reader = Reader(coder)
            reader(coder[0, 0][0])
            before = told(reader)
            for value in (*OTHERS, *NO_INTEGERS, *NO_ROWS, "", "a" * (length - 1), "a" * (length + 1), "e" * length,
                          "A" * length, " " * length, ["a"] * length, ("a",) * length, b"a" * length, 0, "ab\n"):
                check_error(self, InvalidBlock, reader, value, value=value)
                self.assertEqual(told(reader), before)

    def test_no_coders(self):
        for value in NO_CODERS:
            check_error(self, InvalidCoder, Reader, value, value=value)
            check_error(self, InvalidCoder, closed, value, None, value=value)
            check_error(self, InvalidCoder, read_closed, value, None, value=value)

    def test_no_texts(self):
        for value in NO_TEXTS:
            for coder in (PAIR, BLIND, ring_of(65)):
                check_error(self, InvalidText, closed, coder, value, position=None)
        for word in (*NO_INTEGERS, -1, 2, 10 ** 30):
            for coder in (PAIR, BLIND, ring_of(65)):
                check_error(self, InvalidText, closed, coder, [0, 1, word, None], position=2)

    def test_no_look_ahead(self):
        for coder in (BLIND, ring_of(64)):
            check_error(self, NoLookAhead, Reader, coder)
            check_error(self, NoLookAhead, closed, coder, [0] * 200)
            for value in (None, "", "aaa"):
                check_error(self, NoLookAhead, read_closed, coder, value)

    def test_most_states(self):
        more = ring_of(65)
        check_error(self, TooMany, Reader, more, what="states", limit=64)
        check_error(self, TooMany, closed, more, [], what="states", limit=64)
        check_error(self, TooMany, closed, more, [0] * 200, what="states", limit=64)
        check_error(self, TooMany, read_closed, more, None, what="states", limit=64)
        steps = [[("ab"[word], (state + 1) % 64) for word in (0, 1)] for state in range(64)]
        most = Coder(ONE_ONE, steps)
        self.assertEqual([len(most), read_closed(most, closed(most, [1, 0])), Reader(most)("b")], [64, [1, 0], [1]])

    def test_what_was_passed_stays(self):
        text = [1, 0, 1]
        closed(LATE, text)
        self.assertEqual([text, LATE.codes()], [[1, 0, 1], [[("a", 0), ("a", 1)], [("b", 0), ("b", 1)]]])

    def test_long_rings(self):
        coder = Pieces.of(Weights(narrow_ring(4), Rate(1, 1), [1, 2, 4, 8, 16, 8, 4, 2])).evened().coder()
        ahead = look_ahead(coder)
        text = [1, 0, 1, 1, 0] * 20
        self.assertGreater(ahead, 3)
        self.assertEqual(read_closed(coder, closed(coder, text)), text)
