"""What several tests need: plain reckonings that do not use the package, and a check of errors."""

from itertools import product


class Thing:
    """A value of another kind, equal to nothing else."""


# Values that are neither INTEGERS nor rows nor media.
OTHERS = (None, True, False, [], (), {}, set(), b"a", object(), Thing(), [1], {"a": 0}, "x", "ab\n", int, len)
NO_INTEGERS = (None, True, False, "1", "", [], [1], (1,), {}, b"1", object(), Thing())
NO_ROWS = (None, True, 0, 1, [], ["a"], ("a",), {}, b"a", object(), Thing(), "e", "A", "a b", "ab\n", "a1", " ")


def check_error(test, error, call, *told, **attributes):
    """Check that the call raises exactly this error with these attributes."""
    with test.assertRaises(error) as caught:
        call(*told)
    test.assertEqual(caught.exception.__class__, error)
    test.assertEqual(vars(caught.exception), attributes)
    for name, value in attributes.items():
        test.assertEqual(type(getattr(caught.exception, name)), type(value))


def all_rows(signs, length):
    """All rows of so many signs, in order."""
    return ["".join(row) for row in product(signs, repeat=length)]


def all_rows_to(signs, length):
    return [row for number in range(length + 1) for row in all_rows(signs, number)]


def plain_walk(table, row, state=0):
    """Where the row leads by the table as it was passed, None if it cannot be walked."""
    for sign in row:
        state = table[state].get(sign)
        if state is None:
            return None
    return state


def can_go_on(table, state, length):
    """Whether some row of so many signs can be walked from the state."""
    ends = {state}
    for _ in range(length):
        ends = {to for end in ends for to in table[end].values()}
    return bool(ends)


def plain_allowed(table, row):
    """Whether the row is allowed by a table: behind it one can go on for more signs than there are states."""
    end = plain_walk(table, row)
    return end is not None and can_go_on(table, end, len(table) + 1)


def allowed_by(medium, length):
    """The rows of at most so many signs that the medium allows."""
    return [row for row in all_rows_to("abcd"[:medium.many], length) if row in medium]


def going_on(is_good, signs, row, length):
    """Whether rows that are good in each beginning go on for so many signs behind the row."""
    if not is_good(row):
        return False
    return length == 0 or any(going_on(is_good, signs, row + sign, length - 1) for sign in signs)


def rows_going_on(is_good, signs, length, further):
    """The rows of at most so many signs that are good in each beginning and go on for so many further signs."""
    found = []
    level = [""]
    for _ in range(length + 1):
        level = [row for row in level if going_on(is_good, signs, row, further)]
        found += level
        level = [row + sign for row in level for sign in signs]
    return found


def random_table(random, signs, size, chance):
    """A table with some ways, each there with a chance in percent."""
    return [
        {sign: random.randrange(size) for sign in signs if random.randrange(100) < chance}
        for _ in range(size)
    ]


def renumbered(table, order):
    """The same table with other numbers of the states: order[new] is the old one."""
    return [{sign: order.index(to) for sign, to in reversed(table[old].items())} for old in order]


def doubled(table, random):
    """A table with two copies of each state; each sign leads to one of both."""
    size = len(table)
    copies = [*table, *table]
    return [{sign: to + size * random.randrange(2) for sign, to in ways.items()} for ways in copies]


def plain_sums(medium, length, numbers):
    """For each state the sum of the numbers of the ends of its ways, from counting each way once."""
    table = medium.table()
    found = []
    for state in range(len(table)):
        ends = {state: 1}
        for _ in range(length):
            further = {}
            for end, many in ends.items():
                for to in table[end].values():
                    further[to] = further.get(to, 0) + many
            ends = further
        found.append(sum(numbers[end] * many for end, many in ends.items()))
    return found


def kinds(value):
    """The class of a list or tuple, and those of its elements."""
    return [type(value), *map(type, value)]
