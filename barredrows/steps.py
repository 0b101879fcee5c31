"""Sums over the ends of ways, reckoned sign by sign.

Leads have for each state, and for one more behind them, a tuple of the states to which the signs lead. The one more
stands for nowhere: what leads nowhere leads there, and its number is 0 in all sums.
"""

from barredrows.basics import ALL_SIGNS

MOST_SHORT = 30


def leads_of(table, signs):
    """The leads of a table of these signs."""
    nowhere = len(table)
    return tuple([tuple([leading.get(sign, nowhere) for sign in signs]) for leading in [*table, {}]])


def one_sum(leads, numbers):
    """For each state the sum of the numbers of the states to which its signs lead."""
    # The sums are written out, as nearly all reckoning comes down to them.
    if len(leads[0]) == 2:
        return [numbers[one] + numbers[two] for one, two in leads]
    if len(leads[0]) == 3:
        return [numbers[one] + numbers[two] + numbers[three] for one, two, three in leads]
    return [numbers[one] + numbers[two] + numbers[three] + numbers[four] for one, two, three, four in leads]


def ends_sums(leads, length, numbers):
    """For each state the sum of the numbers of the ends of its ways of so many signs."""
    sums = [*numbers, 0]
    for _ in range(length):
        sums = one_sum(leads, sums)
    return sums[:-1]


def all_sums(leads, length, numbers):
    """For 0, 1 .. length signs, the sums of the numbers of the ends of all ways, from each state and from nowhere."""
    sums = [[*numbers, 0]]
    for _ in range(length):
        sums.append(one_sum(leads, sums[-1]))
    return sums


def numbered_way(leads, sums, number, state):
    """The way from the state whose ends have the number among their sums, and what is left of it at the end."""
    way = ""
    for further in sums[-2::-1]:
        for sign, to in zip(ALL_SIGNS, leads[state]):
            if number < further[to]:
                break
            number = number - further[to]
        way = way + sign
        state = to
    return way, number


def number_of_way(leads, sums, way, state):
    """The sum of the ends of all ways from the state that come ahead of this one."""
    number = 0
    for further, found in zip(sums[-2::-1], way):
        for sign, to in zip(ALL_SIGNS, leads[state]):
            if sign == found:
                break
            number = number + further[to]
        state = to
    return number


def ways_grid(leads, length):
    """How many ways of so many signs lead from each state, a list of its own, to each state."""
    halvings = 0
    while length >> halvings > MOST_SHORT:
        halvings += 1
    grid = short_grid(leads, length >> halvings)
    single = short_grid(leads, 1)
    for further in range(halvings - 1, -1, -1):
        grid = joined_grids(grid, grid)
        if length >> further & 1:
            grid = joined_grids(single, grid)
    return grid


def short_grid(leads, length):
    """The same as ways_grid, for a few signs."""
    states = range(len(leads) - 1)
    # Each end is a digit of its own, greater than all counts, so one sum counts the ways to all of them.
    width = 2 * length + 1
    sums = ends_sums(leads, length, [1 << width * end for end in states])
    greatest = (1 << width) - 1
    return [[total >> width * end & greatest for end in states] for total in sums]


def joined_grids(one, other):
    """How many ways there are of one grid followed by one of the other."""
    further = [above_zero(row) for row in other]
    found = []
    for row in one:
        sums = [0 for _ in row]
        for state, number in above_zero(row):
            for end, many in further[state]:
                sums[end] += number * many
        found.append(sums)
    return found


def above_zero(numbers):
    """The tuples of a state and its number, without the numbers 0."""
    return [(state, number) for state, number in enumerate(numbers) if number > 0]
