"""Ways of several signs between the states of a medium, and the parts that they join."""

from barredrows.checks import MOST_LENGTH, check_length, check_state
from barredrows.media import check_medium
from barredrows.tables import walks

MOST_LISTED_LENGTH = 6


def ways(medium, length):
    """How many ways of so many signs lead from each state, a list of its own, to each state."""
    check_medium(medium)
    check_length(length, 0, MOST_LENGTH)
    table = medium.table()
    return [ends_from(table, length, state) for state in range(len(table))]


def ways_from(medium, length, state):
    """The tuples (way, end) of all ways of so many signs from the state, in the order of the ways."""
    check_medium(medium)
    check_length(length, 1, MOST_LISTED_LENGTH)
    check_state(state, len(medium))
    return walks(medium.table(), length, state)


def parts(medium, length=1):
    """The parts for ways of so many signs, sorted lists of states."""
    check_medium(medium)
    check_length(length, 1, MOST_LENGTH)
    reached = closed_reach(ways(medium, length))
    states = range(len(reached))
    found = []
    for state in states:
        part = [other for other in states if reached[state][other] and reached[other][state]]
        # A part is found from each of its states; it is listed once, by the first of them.
        if part and part[0] == state:
            found.append(part)
    return found


def ends_from(table, length, start):
    """To how many ways of so many signs from the state start each state is the end."""
    many = [1 if state == start else 0 for state in range(len(table))]
    for _ in range(length):
        many = one_sign_further(table, many)
    return many


def one_sign_further(table, many):
    further = [0 for _ in table]
    for state, leading in enumerate(table):
        for to in leading.values():
            further[to] += many[state]
    return further


def closed_reach(many):
    """Whether one or more ways, one after another, lead from each state to each, by the numbers of single ways."""
    states = range(len(many))
    reached = [[number > 0 for number in numbers] for numbers in many]
    for middle in states:
        reached = [
            [reached[one][other] or (reached[one][middle] and reached[middle][other]) for other in states]
            for one in states
        ]
    return reached
