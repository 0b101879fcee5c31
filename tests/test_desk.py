import unittest
from random import Random

from barredrows.alike import write_same
from barredrows.coders import Coder, fits
from barredrows.desk import Desk
from barredrows.errors import (
    BarredError,
    CommandFailed,
    InvalidBounds,
    InvalidCommand,
    InvalidName,
    InvalidSigns,
    InvalidSteps,
    InvalidText,
    InvalidThing,
    InvalidWords,
    LimitError,
    MissingError,
    NameTaken,
    NothingLeft,
    NothingToUndo,
    OtherRate,
    OtherSigns,
    StateError,
    TooMany,
    UnknownName,
)
from barredrows.exact import has_weights
from barredrows.least import greatest_weights, least_weight, needs
from barredrows.media import Medium
from barredrows.papers import Rate
from barredrows.pieces import Pieces
from barredrows.rates import profile
from tests.helpers import NO_INTEGERS, OTHERS, Thing, check_error, kinds
from tests.test_ahead import LATE, ring_of
from tests.test_coders import PAIR
from tests.test_least import narrow_ring

OWN_ERRORS = (BarredError, MissingError, StateError, LimitError)
BB = Medium.barring(2, "bb")
SUMS = Medium.sums(1, -1, low=-1, high=1)
NO_NAMES = (*OTHERS[:10], None, 0, "", "A", "a1", "abcdefghi", "a b", "a_", "-", "a\n", " a", "a ", ["a"], ("a",), b"a")


def shown(desk):
    """All that a desk tells of what it is now."""
    return [len(desk), desk.names(), [shape(desk.named(name)) for name in desk.names()], desk.log()]


def shape(thing):
    if isinstance(thing, Medium):
        return ("medium", thing.many, thing.table())
    if isinstance(thing, Coder):
        return ("coder", thing.rate.p, thing.rate.q, thing.lead, thing.codes())
    return ("text", thing)


def history(desk):
    """What a desk is now and was ahead of each change that can be taken back."""
    def back(held):
        found = [shown(held)]
        while True:
            try:
                held.undo()
            except NothingToUndo:
                return found
            found.append(shown(held))

    return desk.tried(back)


def desk_of(*commands):
    desk = Desk()
    desk.do_all(*commands)
    return desk


class Answers(unittest.TestCase):
    """Each command beside the functions that it stands for."""

    def setUp(self):
        self.desk = desk_of("bar m 2 bb", "sums s -1 1 1 -1", "free f 4", "text t 0 1 1")
        self.desk.put("pair", PAIR)

    def test_made_media(self):
        desk = Desk()
        for command, medium in (
            ("free a 2", Medium.free(2)), ("free b 4", Medium.free(4)), ("bar c 2 bb", BB),
            ("bar d 3 abc ccc a", Medium.barring(3, "abc", "ccc", "a")),
            ("bar e 2 aaaaaaaa", Medium.barring(2, "aaaaaaaa")),
            ("bar g 2 aa aa aa bbb bbb bbb bbb bbb", Medium.barring(2, "aa", "bbb")), ("sums h -1 1 1 -1", SUMS),
            ("sums i 0 3 1 -1 0 2", Medium.sums(1, -1, 0, 2, low=0, high=3)),
            ("sums j -9 0 -9 9 9", Medium.sums(-9, 9, 9, low=-9, high=0)),
            ("meet k h c", SUMS & BB), ("meet l c c", BB), ("free drop 3", Medium.free(3)),
            ("free abcdefgh 2", Medium.free(2)),
        ):
            name = command.split(" ")[1]
            self.assertEqual(desk.do(command=command), str(len(medium)))
            self.assertTrue(desk.named(name=name) == medium)
        self.assertEqual(desk.names(), sorted("a b c d e g h i j k l drop abcdefgh".split()))

    def test_code(self):
        for medium, rate in ((BB, "2:3"), (BB, "1:2"), (BB, "4:6"), (SUMS, "1:2"), (Medium.free(4), "2:1")):
            desk = Desk()
            desk.put("m", medium)
            self.assertEqual(desk.do(f"code c m {rate}"), "done")
            coder = desk.named("c")
            told = Rate.read(rate)
            weights = greatest_weights(medium, told, least_weight(medium, told))
            self.assertTrue(coder.rate == told)
            self.assertTrue(fits(medium, coder))
            self.assertIn(coder.lead, [medium.least_row(state) for state in range(len(medium)) if weights[state]])
            self.assertLessEqual(len(coder), sum(Pieces.of(weights).numbers()))
            self.assertEqual([desk.log(), desk.names()], [[f"code c m {rate}"], ["c", "m"]])

    def test_code_none(self):
        before = history(self.desk)
        for rate in ("3:4", "1:1", "6:6"):
            self.assertEqual(self.desk.do(f"code c m {rate}"), "none")
        # Nothing was made, and nothing can be taken back.
        self.assertEqual(history(self.desk), before)
        check_error(self, NameTaken, self.desk.do, "code m m 3:4", name="m")
        self.assertNotIn("c", self.desk)

    def test_text(self):
        desk = Desk()
        self.assertEqual([desk.do("text a 0"), desk.do("text b 63 0 7"), desk.do("text c" + " 5" * 200)],
                         ["1", "3", "200"])
        self.assertEqual([desk.named("a"), desk.named("b"), desk.named("c")], [[0], [63, 0, 7], [5] * 200])
        check_error(self, InvalidText, desk.do, "text d" + " 5" * 201, position=None)
        check_error(self, InvalidText, desk.do, "text d" + " 64" * 201, position=None)
        check_error(self, InvalidText, desk.do, "text d 64", position=0)
        check_error(self, InvalidText, desk.do, "text d 0 63 64 -1", position=2)
        check_error(self, InvalidText, desk.do, "text d 0 -1 64", position=1)
        check_error(self, InvalidText, desk.do, "text d 12345678901234567890", position=0)
        self.assertEqual(desk.names(), ["a", "b", "c"])

    def test_tellers(self):
        for name, medium in (("m", BB), ("s", SUMS), ("f", Medium.free(4))):
            self.assertEqual(self.desk.do(f"best {name}"), " ".join(map(str, profile(medium))))
            for p in range(1, 7):
                for q in range(1, 7):
                    told = has_weights(medium, Rate(p, q))
                    self.assertEqual(self.desk.do(f"paper {name} {p}:{q}"), "weights" if told else "loads")
                    expected = "{} {}".format(*needs(medium, Rate(p, q))) if told else "none"
                    self.assertEqual(self.desk.do(f"needs {name} {p}:{q}"), expected)
        self.assertEqual([self.desk.do("needs m 2:3"), self.desk.do("needs m 3:4"), self.desk.do("best s")],
                         ["2 1", "none", "0 1 1 2 2 3"])
        self.assertEqual(len(self.desk.log()), 4)

    def test_write(self):
        self.assertEqual(self.desk.do("write pair t"), "abbaba")
        self.desk.put("lead", Coder(Rate(1, 2), PAIR.codes(), "dc"))
        self.assertEqual(self.desk.do("write lead t"), "dcabbaba")
        self.desk.do("text high 1 0 2 5")
        check_error(self, InvalidText, self.desk.do, "write pair high", position=2)
        self.desk.do("code c m 2:3")
        self.assertEqual(self.desk.do("write c t"), self.desk.named("c")([0, 1, 1]))
        check_error(self, InvalidText, self.desk.do, "write c high", position=3)

    def test_same_and_fits(self):
        double = Coder(Rate(1, 2), [[("ab", 1), ("ba", 0)], [("ab", 0), ("ba", 1)]])
        turned = Coder(Rate(1, 2), [[("ba", 0), ("ab", 0)]])
        self.desk.put("double", double)
        self.desk.put("turned", turned)
        self.desk.put("late", LATE)
        self.assertEqual([self.desk.do("same pair double"), self.desk.do("same double pair"),
                          self.desk.do("same pair turned"), self.desk.do("same pair pair")],
                         ["yes", "yes", "no", "yes"])
        self.assertTrue(write_same(PAIR, double))
        self.assertEqual([self.desk.do("fits pair s"), self.desk.do("fits pair m"), self.desk.do("fits pair f"),
                          self.desk.do("fits late m")], ["yes", "no", "yes", "no"])
        with self.assertRaises(OtherRate) as caught:
            self.desk.do("same late pair")
        self.assertTrue(caught.exception.one == LATE.rate and caught.exception.other == PAIR.rate)

    def test_drop_and_undo(self):
        desk = self.desk
        self.assertEqual([desk.do("drop m"), desk.names()], ["done", ["f", "pair", "s", "t"]])
        self.assertEqual([desk.do("drop t"), desk.do("drop pair"), desk.names()], ["done", "done", ["f", "s"]])
        self.assertEqual(desk.do("free m 3"), "1")
        self.assertEqual(desk.do("undo"), "done")
        self.assertEqual([desk.do("undo"), desk.do("undo"), desk.names()], ["done", "done", ["f", "pair", "s", "t"]])
        self.assertEqual([desk.do("undo"), desk.names()], ["done", ["f", "m", "pair", "s", "t"]])
        self.assertTrue(desk.named("m") == BB)
        # Then the put, and what was made ahead of it.
        for left in (["f", "m", "s", "t"], ["f", "m", "s"], ["m", "s"], ["m"], []):
            self.assertEqual([desk.do("undo"), desk.names()], ["done", left])
        check_error(self, NothingToUndo, desk.do, "undo")
        check_error(self, NothingToUndo, desk.undo)

    def test_any_bits_on_a_desk(self):
        self.desk.do_all("code c m 2:3", "text bits 3 0 2 1", "fits c m")
        self.assertIn(self.desk.do("write c bits"), BB)


class Commands(unittest.TestCase):
    def setUp(self):
        self.desk = desk_of("bar m 2 bb", "text t 0 1", "code c m 2:3", "free x 2")
        self.before = history(self.desk)

    def tearDown(self):
        """Behind each refusal the desk is as it was."""
        self.assertEqual(history(self.desk), self.before)

    def test_not_written_as_in_the_table(self):
        for command in (
            *OTHERS, *NO_INTEGERS, "", " ", "free", "free n", "free n 2 ", " free n 2", "free  n 2", "free n  2",
            "free n 2 3", "free n two", "free n 02", "free n -0", "free n +2", "free n 2.0", "free n --2", "free n -",
            "free n 00", "free n -02", "free n 2a", "free N 2", "free n1 2", "free abcdefghi 2", "free n 2\n",
            "Free n 2", "frees n 2", "free\tn\t2", "free,n,2", "bar", "bar n", "bar n 2", "bar n 2 ", "bar n bb",
            "bar n 2 e", "bar n 2 bb ", "bar n 2 bb  aa", "bar n 2 BB", "bar n 02 bb", "bar n 2 b1", "sums n",
            "sums n 0 1", "sums n 0 1 1", "sums n 0 1 1 ", "sums n -1 1 1 -0", "sums n 00 1 1 1", "sums n 0 1 1 x",
            "sums n 0 1 +1 1", "meet", "meet n", "meet n m", "meet n m m m", "meet n m 2", "meet n m M", "code n",
            "code n m", "code n m 7:1", "code n m 1:7", "code n m 0:1", "code n m 1:0", "code n m 02:3",
            "code n m 2:3:1", "code n m 2 3", "code n m 2-3", "code n m 2:", "code n m :3", "code n m 2:3 ",
            "code n m -1:2", "code n m 23", "code n m a:b", "code n 2:3 m", "text n", "text n ", "text n a",
            "text n 01", "text n -0", "text n 1  2", "text n 1 2 ", "text 1 2", "drop", "drop ", "drop M", "drop m t",
            "drop abcdefghi", "drop 1", "undo ", " undo", "undo m", "undo undo", "Undo", "paper", "paper m",
            "paper m 7:1", "paper m 2:3 1", "paper 2:3 m", "needs m", "needs m 0:0", "needs m 2:3 ", "best",
            "best m m", "best M", "best  m", "write c", "write c t t", "write c T", "write c 0 1", "same c",
            "same c c c", "same C c", "fits c", "fits c m m", "fits c M", "put n m", "named m", "log", "names",
            "runs n 2 1", "free n 2;", "free n 2 free o 2", "m", "new n", "bar n 2 ..", "text n ..",
        ):
            check_error(self, InvalidCommand, self.desk.do, command, value=command)

    def test_names_in_use(self):
        for command in ("free m 2", "free t 9", "bar c 2 bb", "bar c 9 aaaaaaaaa", "sums x 0 1 1 1", "meet t m m",
                        "meet m no t", "code m m 2:3", "code c no 1:1", "text m 99", "text t 0"):
            name = command.split(" ")[1]
            check_error(self, NameTaken, self.desk.do, command, name=name)

    def test_unknown_names(self):
        for command, name in (
            ("meet n no m", "no"), ("meet n m no", "no"), ("meet n no nor", "no"), ("meet n t m", "t"),
            ("meet n m c", "c"), ("meet n c t", "c"), ("meet n n m", "n"), ("meet n m n", "n"),
            ("code n no 2:3", "no"), ("code n c 2:3", "c"), ("code n t 2:3", "t"), ("drop no", "no"),
            ("drop undo", "undo"), ("paper no 2:3", "no"), ("paper c 2:3", "c"), ("paper t 6:1", "t"),
            ("needs t 2:3", "t"), ("needs no 3:4", "no"), ("best c", "c"), ("best no", "no"), ("write m t", "m"),
            ("write t c", "t"), ("write c m", "m"), ("write c c", "c"), ("write no nor", "no"), ("write c no", "no"),
            ("same m m", "m"), ("same c m", "m"), ("same c no", "no"), ("same t c", "t"), ("fits m c", "m"),
            ("fits c c", "c"), ("fits c t", "t"), ("fits no m", "no"), ("fits c no", "no"),
        ):
            check_error(self, UnknownName, self.desk.do, command, value=name)

    def test_errors_of_what_is_done(self):
        do = self.desk.do
        check_error(self, InvalidText, do, "text n 1 2 -" + "9" * 4900, position=2)
        for many in (-1, -20, 0, 1, 5, 10 ** 30):
            check_error(self, InvalidSigns, do, f"free n {many}", value=many)
            check_error(self, InvalidSigns, do, f"bar n {many} aaaaaaaaa", value=many)
        check_error(self, InvalidWords, do, "bar n 2 aa aaaaaaaaa", position=1)
        check_error(self, InvalidWords, do, "bar n 2 ab c", position=1)
        check_error(self, InvalidWords, do, "bar n 2" + " ab" * 9, position=None)
        check_error(self, NothingLeft, do, "bar n 2 a b")
        check_error(self, TooMany, do, "bar n 4 abcdabcd bcdabcda cdabcdab", what="states", limit=16)
        check_error(self, InvalidSteps, do, "sums n 0 1 1 10", position=1)
        check_error(self, InvalidSteps, do, "sums n 1 0 -10 1", position=0)
        check_error(self, InvalidSteps, do, "sums n 0 1 1 1 1 1 1", position=None)
        check_error(self, InvalidBounds, do, "sums n 1 2 1 1", low=1, high=2)
        check_error(self, InvalidBounds, do, "sums n -8 8 1 1", low=-8, high=8)
        check_error(self, NothingLeft, do, "sums n 0 1 1 1")
        self.desk.do("free w 3")
        check_error(self, OtherSigns, do, "meet n m w", one=2, other=3)
        self.desk.do("bar one 2 a")
        self.desk.do("bar two 2 b")
        check_error(self, NothingLeft, do, "meet n one two")
        for _ in range(3):
            self.desk.do("undo")

    def test_errors_of_code(self):
        narrow = Medium.runs(2, a=15)
        wide = Medium(4, [{"a": 1, "b": 2}, {"a": 1, "b": 1}, {"c": 2, "d": 2}])
        self.desk.put("many", wide)
        self.assertEqual(self.desk.do("code n many 1:1"), "done")
        self.desk.do("undo")
        self.desk.do("undo")
        for medium in (narrow, narrow_ring(6), narrow_ring(8), Medium.free(4), Medium.barring(3, "abc"),
                       Medium.sums(1, -1, 0, low=-7, high=8)):
            self.desk.put("many", medium)
            for p in range(1, 7):
                for q in range(1, 7):
                    self.check_code(medium, Rate(p, q))
            self.desk.undo()

    def check_code(self, medium, rate):
        """The errors of code are those of least_weight and of Pieces.of."""
        try:
            weights = greatest_weights(medium, rate, least_weight(medium, rate)) if has_weights(medium, rate) else None
            if weights is not None:
                Pieces.of(weights)
        except TooMany as error:
            check_error(self, TooMany, self.desk.do, f"code n many {rate}", what=error.what, limit=error.limit)
            return
        answer = self.desk.do(f"code n many {rate}")
        self.assertEqual(answer, "none" if weights is None else "done")
        if weights is not None:
            self.desk.undo()

    def test_code_has_each_error(self):
        met = set()
        for medium in (Medium.free(4), Medium.runs(2, a=15), Medium.runs(2, a=14, b=1), Medium.runs(3, a=5, b=5, c=5),
                       narrow_ring(4), narrow_ring(6), narrow_ring(8)):
            desk = Desk()
            desk.put("m", medium)
            for p in range(1, 7):
                for q in range(1, 7):
                    try:
                        met.add(desk.do(f"code c m {p}:{q}"))
                        if "c" in desk:
                            desk.undo()
                    except TooMany as error:
                        met.add((error.what, error.limit))
        self.assertEqual(met, {"done", "none", ("weight", 64), ("entries", 2000)})


class DoAll(unittest.TestCase):
    def test_answers(self):
        desk = Desk()
        answers = desk.do_all("bar m 2 bb", "best m", "needs m 2:3", "paper m 3:4", "text t 0 1", "undo")
        self.assertEqual(answers, ["2", "0 1 2 2 3 4", "2 1", "loads", "2", "done"])
        self.assertEqual([desk.names(), desk.log(), desk.do_all()], [["m"], ["bar m 2 bb"], []])
        self.assertEqual(kinds(answers), [list] + [str] * 6)

    def test_one_raises_an_error(self):
        desk = desk_of("bar m 2 bb", "text t 0 1")
        before = history(desk)
        for commands, position, cause in (
            (["free a 2", "free b 2", "undo", "drop m", "free c 7"], 4, InvalidSigns),
            (["nothing"], 0, InvalidCommand), ([None], 0, InvalidCommand), (["drop m", ["drop t"]], 1, InvalidCommand),
            (["undo", "undo", "undo", "free a 2"], 2, NothingToUndo), (["free a 2", "free a 3"], 1, NameTaken),
            (["drop t", "drop t"], 1, UnknownName), (["best m", "best m", "best t", "no"], 2, UnknownName),
            (["bar a 2 a b"], 0, NothingLeft),
            (["free a 2", "bar n 4 abcdabcd bcdabcda cdabcdab"], 1, TooMany),
        ):
            with self.assertRaises(CommandFailed) as caught:
                desk.do_all(*commands)
            self.assertIs(caught.exception.__class__, CommandFailed)
            self.assertEqual(vars(caught.exception), {"position": position})
            self.assertIs(caught.exception.__cause__.__class__, cause)
            self.assertEqual(history(desk), before)

    def test_undo_of_each(self):
        desk = Desk()
        desk.do_all("free a 2", "free b 3", "text t 0")
        desk.undo()
        self.assertEqual([desk.names(), desk.log()], [["a", "b"], ["free a 2", "free b 3"]])


class Things(unittest.TestCase):
    def test_put(self):
        desk = Desk()
        text = [0, 63, 5]
        self.assertIsNone(desk.put("m", BB))
        self.assertIsNone(desk.put(name="t", thing=text))
        desk["c"] = PAIR
        desk["u"] = (1, 2)
        desk["abcdefgh"] = [0] * 200
        self.assertEqual(text, [0, 63, 5])
        text.append(1)
        self.assertTrue(desk.named("m") == BB and desk.named("c") == PAIR)
        self.assertEqual([desk.named("t"), desk.named("u"), desk.names(), len(desk)],
                         [[0, 63, 5], [1, 2], ["abcdefgh", "c", "m", "t", "u"], 5])
        self.assertEqual([kinds(desk.named("u")), desk.log()], [[list, int, int], []])
        desk.named("t").clear()
        desk.names().clear()
        desk.log().append("x")
        self.assertEqual([desk.named("t"), len(desk.names()), desk.log()], [[0, 63, 5], 5, []])
        self.assertIsNot(desk.named("t"), desk.named("t"))
        # A coder with many states may have a name, too.
        desk["ring"] = ring_of(1000)
        self.assertEqual(len(desk.named("ring")), 1000)

    def test_undo_of_a_put(self):
        desk = Desk()
        desk["m"] = BB
        desk.do("text t 1")
        desk.put("c", PAIR)
        self.assertEqual(desk.log(), ["text t 1"])
        self.assertIsNone(desk.undo())
        self.assertEqual(desk.names(), ["m", "t"])
        desk.undo()
        desk.undo()
        self.assertEqual([desk.names(), len(desk)], [[], 0])
        check_error(self, NothingToUndo, desk.undo)

    def test_no_names_no_things(self):
        desk = desk_of("bar m 2 bb", "text t 0 1")
        before = history(desk)

        def assign(name, thing):
            desk[name] = thing

        for call in (desk.put, assign):
            for value in NO_NAMES:
                check_error(self, InvalidName, call, value, None, value=value)
                check_error(self, InvalidName, call, value, BB, value=value)
            for value in (None, True, 0, "", "t", "0 1", {}, {0: 1}, set(), {0}, b"a", object(), Thing(), Medium, [],
                          (),
                          [0] * 201, [64], [-1], [True], [0, False], ["0"], [None], [[0]], Rate(1, 2), desk, range(3),
                          BB.table(), PAIR.codes()):
                check_error(self, InvalidThing, call, "n", value, value=value)
                check_error(self, InvalidThing, call, "m", value, value=value)
            for name in ("m", "t"):
                for thing in (BB, PAIR, [0]):
                    check_error(self, NameTaken, call, name, thing, name=name)
        self.assertEqual(history(desk), before)

    def test_unknown_names(self):
        desk = desk_of("bar m 2 bb", "text t 0 1")
        for value in (*NO_NAMES, "n", "mm", "M", object(), {}, ["m"], ("m",), b"m"):
            check_error(self, UnknownName, desk.named, value, value=value)
            self.assertIs(value in desk, False)
        for name in ("m", "t"):
            self.assertIs(name in desk, True)
        self.assertEqual([len(Desk()), Desk().names(), Desk().log()], [0, [], []])

    def test_lists_in_order(self):
        desk = desk_of("free z 2", "free a 2", "free ab 2", "free aa 2")
        self.assertEqual(desk.names(), ["a", "aa", "ab", "z"])
        self.assertEqual(desk.log(), ["free z 2", "free a 2", "free ab 2", "free aa 2"])


class Log(unittest.TestCase):
    def test_what_made_or_dropped_something(self):
        desk = Desk()
        for command in ("bar m 2 bb", "best m", "code c m 3:4", "code c m 2:3", "text t 0", "write c t", "drop t",
                        "same c c", "fits c m", "needs m 1:2", "paper m 1:2"):
            desk.do(command)
        self.assertEqual(desk.log(), ["bar m 2 bb", "code c m 2:3", "text t 0", "drop t"])
        desk.do("undo")
        self.assertEqual(desk.log(), ["bar m 2 bb", "code c m 2:3", "text t 0"])
        desk.do("free n 2")
        desk.undo()
        desk.undo()
        self.assertEqual(desk.log(), ["bar m 2 bb", "code c m 2:3"])
        desk["p"] = PAIR
        desk.do("drop p")
        self.assertEqual(desk.log(), ["bar m 2 bb", "code c m 2:3", "drop p"])
        desk.do_all("undo", "undo", "undo")
        self.assertEqual([desk.log(), desk.names()], [["bar m 2 bb"], ["m"]])


class Tried(unittest.TestCase):
    def setUp(self):
        self.desk = desk_of("bar m 2 bb", "text t 0 1", "drop t")
        self.desk["p"] = PAIR
        self.before = history(self.desk)

    def tearDown(self):
        self.assertEqual(history(self.desk), self.before)

    def change(self, desk):
        desk.undo()
        desk.do_all("undo", "undo", "free w 4", "code c m 2:3")
        desk["x"] = [1]
        self.assertEqual(desk.names(), ["c", "m", "w", "x"])
        return "told"

    def test_tried(self):
        self.assertEqual(self.desk.tried(self.change), "told")
        self.assertEqual(self.desk.tried(action=self.change), "told")
        self.assertIs(self.desk.tried(lambda desk: desk), self.desk)
        self.assertIsNone(self.desk.tried(lambda desk: None))

    def test_tried_with_an_error(self):
        for error in (KeyError("x"), ValueError("y"), NothingToUndo()):
            def action(desk):
                self.change(desk)
                raise error

            with self.assertRaises(error.__class__) as caught:
                self.desk.tried(action)
            self.assertIs(caught.exception, error)
        check_error(self, NothingToUndo, self.desk.tried, lambda desk: [desk.undo() for _ in range(9)])

    def test_one_within_another(self):
        def action(desk):
            desk.do("free w 4")
            self.assertEqual(desk.tried(self.inner), "inner")
            self.assertEqual(desk.names(), ["m", "p", "w"])

        self.desk.tried(action)

    def inner(self, desk):
        desk.do_all("drop m", "drop p")
        return "inner"

    def test_do_all_that_fails_within(self):
        def action(desk):
            desk.do("drop m")
            check_error(self, CommandFailed, desk.do_all, "free w 4", "free w 4", position=1)
            self.assertEqual(desk.names(), ["p"])

        self.desk.tried(action)


class Desks(unittest.TestCase):
    def test_two_desks_share_nothing(self):
        one, other = Desk(), Desk()
        text = [1, 2]
        one["t"] = text
        other["t"] = text
        one.do("free m 2")
        self.assertEqual([other.names(), other.log()], [["t"], []])
        other.do("free m 3")
        one.do("drop t")
        self.assertEqual([one.named("m").many, other.named("m").many, other.named("t")], [2, 3, [1, 2]])
        one.undo()
        one.named("t").append(3)
        self.assertEqual([one.named("t"), other.named("t")], [[1, 2], [1, 2]])

    def test_beside_a_plain_desk(self):
        """Many commands in any order beside a dict of shapes, with all states of it ahead of each change."""
        random = Random(1001)
        answers = 0
        for _ in range(30):
            desk = Desk()
            steps = [{}]
            log = []
            for _ in range(60):
                command = self.some_command(random)
                before = shown(desk)
                try:
                    answer = desk.do(command)
                except OWN_ERRORS:
                    self.assertEqual(shown(desk), before)
                    continue
                answers += 1
                words = command.split(" ")
                if words[0] == "undo":
                    steps.pop()
                    log.pop()
                elif words[0] in ("free", "bar", "sums", "meet", "code", "text") and answer != "none":
                    steps.append({**steps[-1], words[1]: shape(desk.named(words[1]))})
                    log.append(command)
                elif words[0] == "drop":
                    steps.append({name: told for name, told in steps[-1].items() if name != words[1]})
                    log.append(command)
                names = sorted(steps[-1])
                self.assertEqual(shown(desk), [len(names), names, [steps[-1][name] for name in names], log])
            self.assertEqual([found[1] for found in history(desk)], [sorted(found) for found in steps[::-1]])
        self.assertGreater(answers, 400)

    def some_command(self, random):
        names = "abcdef"
        one, two, three = random.choice(names), random.choice(names), random.choice(names)
        rate = f"{random.randrange(1, 4)}:{random.randrange(1, 5)}"
        return random.choice((
            f"free {one} {random.randrange(2, 4)}", f"bar {one} 2 {random.choice(('bb', 'aa bbb', 'ab', 'a b'))}",
            f"sums {one} -1 {random.randrange(3)} 1 -1", f"meet {one} {two} {three}", f"code {one} {two} {rate}",
            f"text {one} {random.randrange(2)} {random.randrange(3)}", f"drop {one}", "undo", f"paper {one} {rate}",
            f"needs {one} {rate}", f"best {one}", f"write {one} {two}", f"same {one} {two}", f"fits {one} {two}",
        ))
