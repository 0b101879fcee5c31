import unittest

from barredrows.descriptions import describe, read_medium
from barredrows.errors import InvalidDescription, InvalidMedium
from barredrows.media import Medium
from tests.helpers import OTHERS, check_error
from tests.test_media import random_media

BB = "signs 2\nstate a 0 b 1\nstate a 0\n"


class Descriptions(unittest.TestCase):
    def check_wrong(self, description, line):
        check_error(self, InvalidDescription, read_medium, description, line=line)

    def test_written(self):
        self.assertEqual(describe(Medium.barring(2, "bb")), BB)
        self.assertEqual(describe(medium=Medium.free(4)), "signs 4\nstate a 0 b 0 c 0 d 0\n")
        sixteen = describe(Medium.sums(1, -1, low=0, high=15))
        self.assertEqual(sixteen.split("\n")[-3:], ["state a 15 b 13", "state b 14", ""])

    def test_read(self):
        self.assertEqual(read_medium(BB), Medium.barring(2, "bb"))
        self.assertEqual(read_medium(description="signs 3\nstate c 0\n").table(), [{"c": 0}])

    def test_read_back(self):
        media = [Medium.sums(1, -1, low=0, high=number) for number in range(1, 16)]
        media += [Medium.free(2), Medium.free(3), Medium.free(4)]
        media += [medium for _, medium in random_media(9, 150)]
        for medium in media:
            description = describe(medium)
            self.assertEqual(read_medium(description), medium)
            self.assertEqual(describe(read_medium(description)), description)

    def test_no_media(self):
        for value in (*OTHERS, BB):
            check_error(self, InvalidMedium, describe, value, value=value)

    def test_no_strings(self):
        for value in (None, True, 0, [], [BB], {}, BB.encode(), object(), Medium.free(2), ("signs 2\n",)):
            self.check_wrong(value, None)

    def test_first_line(self):
        for line in ("", "signs", "signs ", "signs 1", "signs 5", "signs 02", "signs 2 ", " signs 2", "signs  2",
                     "Signs 2", "signs 22", "signs -2", "signs +2", "signs a", "state a 0", "signs 2\t", "sign 2",
                     "signs 2 2"):
            self.check_wrong(f"{line}\nstate a 0\n", 1)
            self.check_wrong(f"{line}\nwrong\n", 1)
        for description in ("", "\n", "signs 2", "state a 0\n", "wrong", "\nsigns 2\nstate a 0\n", "signs 1\n"):
            self.check_wrong(description, 1)

    def test_later_lines(self):
        for line in ("", "state", "state ", "state a", "state a ", "state a 0 ", " state a 0", "state  a 0",
                     "state a  0", "state a 0 b", "state a 0  b 0", "state b 0 a 0", "state a 0 a 0", "state a 0 a 1",
                     "state c 0", "state a 0 c 0", "state A 0", "state ab 0", "state 0 a", "state a b", "state a 00",
                     "state a 01", "state a -1", "state a +1", "state a -0", "state a 64", "state a 100",
                     "state a 0 b 64", "state a 1_0", "State a 0", "states a 0", "signs 2", "statea 0", "state a0",
                     "state a 0,b 0", "state a 0\t", "state a 0 b 0 0", "state a " + "1" * 4000):
            self.check_wrong(f"signs 2\n{line}\n", 2)
            self.check_wrong(f"signs 2\nstate a 0\n{line}\nwrong\n", 3)
            self.check_wrong(f"signs 2\n{'state a 63' + chr(10)}{line}", 3 if line else 0)

    def test_signs_by_their_number(self):
        self.check_wrong("signs 2\nstate c 0\n", 2)
        self.check_wrong("signs 3\nstate c 0\nstate d 0\n", 3)
        self.assertEqual(len(read_medium("signs 3\nstate c 0\n")), 1)
        self.assertEqual(len(read_medium("signs 4\nstate d 0\n")), 1)

    def test_line_feeds(self):
        self.check_wrong("signs 2", 1)
        self.check_wrong("signs 2\nstate a 0", 2)
        self.check_wrong(BB[:-1], 3)
        self.check_wrong(BB + "\n", 4)
        self.check_wrong("signs 2\nstate a 7\nstate a 0", 3)
        self.check_wrong("signs 2\n\nstate a 0\n", 2)
        self.check_wrong(BB + " ", 4)

    def test_too_few_lines(self):
        for many in (2, 3, 4):
            self.check_wrong(f"signs {many}\n", 2)

    def test_too_many_lines(self):
        line = "state a 0\n"
        self.check_wrong("signs 2\n" + line * 64, 0)
        self.check_wrong("signs 2\n" + line * 65, 66)
        self.check_wrong("signs 2\n" + line * 65 + "wrong\n", 66)
        self.check_wrong("signs 2\n" + line * 64 + "wrong", 66)
        self.check_wrong("signs 2\n" + line * 63 + "wrong\n" + line, 65)
        self.check_wrong("signs 2\n" + line * 63 + "state a 0", 65)
        self.check_wrong("signs 2\n" + "state a 63\n" * 64, 0)

    def test_no_tables_of_media(self):
        for states in (
            ["a 1"], ["a 63"], ["a 0 b 1", "a 2"],
            ["a 0 b 1", "a 0 b 0"], ["a 0", "b 1"], ["a 0 b 1", "a 0", "b 0"],
            ["a 2 b 1", "a 0", "b 0"], ["a 0 b 1", "a 1 b 0"], ["a 1", "a 0"],
            ["a 0", "a 0"], ["a 1 b 2", "b 0", "b 0"],
        ):
            text = "".join([f"state {state}\n" for state in states])
            self.check_wrong("signs 2\n" + text, 0)

    def test_too_many_states(self):
        for size in (16, 17, 18, 64):
            states = [f"state a {state + 1}\n" for state in range(size - 1)] + ["state a 0 b 0\n"]
            description = "signs 2\n" + "".join(states)
            if size == 16:
                self.assertEqual(len(read_medium(description)), 16)
            else:
                self.check_wrong(description, 0)
