"""Tables as plain lists of dicts: walking them, and reducing them to the table of a medium."""

from barredrows.basics import ALL_SIGNS
from barredrows.steps import leads_of


def walked(table, row, state):
    """The state to which the row leads from the state, None if it cannot be walked."""
    for sign in row:
        if sign not in table[state]:
            return None
        state = table[state][sign]
    return state


def walks(table, length, state):
    """The list of the tuples (row, end) of all rows of so many signs from the state, in order."""
    found = [("", state)]
    for _ in range(length):
        found = [(row + sign, table[end][sign]) for row, end in found for sign in sorted(table[end])]
    return found


def least_rows(table):
    """The least row that leads to each state of the table of a medium."""
    found = [""]
    at = 0
    while at < len(found):
        for sign in sorted(table[at]):
            # The states are numbered in the order of these rows, so a state is new if it comes next.
            if table[at][sign] == len(found):
                found.append(found[at] + sign)
        at += 1
    return found


def living_part(table):
    """The table without the signs that lead to dead states; a dead state keeps its number, and leads nowhere."""
    alive = [True for _ in table]
    while True:
        still = [any([alive[to] for to in leading.values()]) for leading in table]
        if still == alive:
            break
        alive = still
    return [{sign: to for sign, to in leading.items() if alive[to]} for leading in table]


def kinds_of(table):
    """A number for each state of a table without dead ends, the same one for states that are like."""
    leads = leads_of(table, ALL_SIGNS)[:-1]
    kinds = [0 for _ in table]
    while True:
        # Where a sign leads nowhere the number is none of a kind.
        known = [*kinds, -1]
        finer = numbered([(known[one], known[two], known[three], known[four]) for one, two, three, four in leads])
        # Each round only parts kinds, so an equal number of kinds means that none was parted.
        if max(finer) == max(kinds):
            return kinds
        kinds = finer


def numbered(marks):
    """Numbers from 0 for the marks, the same one for equal marks."""
    numbers = {}
    found = []
    for mark in marks:
        if mark not in numbers:
            numbers[mark] = len(numbers)
        found.append(numbers[mark])
    return found


def least_table(table, start=0):
    """The table of the medium that begins in this state, with any number of states; empty if the state is dead."""
    living = living_part(table)
    if not living[start]:
        return []
    kinds = kinds_of(living)
    order = [start]
    places = {kinds[start]: 0}
    at = 0
    # States are met in the order of the least rows that lead to them.
    while at < len(order):
        leading = living[order[at]]
        for sign in sorted(leading):
            kind = kinds[leading[sign]]
            if kind not in places:
                places[kind] = len(order)
                order.append(leading[sign])
        at += 1
    return [{key: places[kinds[living[old][key]]] for key in sorted(living[old])} for old in order]


def meet_table(one, other):
    """A table for the rows of both tables; its states are the pairs of states to which a row leads."""
    order = [(0, 0)]
    places = {(0, 0): 0}
    table = []
    at = 0
    while at < len(order):
        first, second = one[order[at][0]], other[order[at][1]]
        at += 1
        leading = {sign: (first[sign], second[sign]) for sign in first if sign in second}
        for pair in leading.values():
            if pair not in places:
                places[pair] = len(order)
                order.append(pair)
        table.append({sign: places[pair] for sign, pair in leading.items()})
    return table
