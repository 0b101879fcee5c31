"""Sums over the ends of ways, reckoned sign by sign."""


def leads_of(table, signs):
    """For each state the states to which these signs lead, the number behind the last state for nowhere."""
    nowhere = len(table)
    return tuple([tuple([leading.get(sign, nowhere) for sign in signs]) for leading in table])


def one_sum(leads, numbers):
    """For each state the sum of the numbers of the states to which its signs lead."""
    # What leads nowhere adds nothing. The sums are written out, as nearly all reckoning comes down to them.
    at = [*numbers, 0]
    if len(leads[0]) == 2:
        return [at[one] + at[two] for one, two in leads]
    if len(leads[0]) == 3:
        return [at[one] + at[two] + at[three] for one, two, three in leads]
    return [at[one] + at[two] + at[three] + at[four] for one, two, three, four in leads]


def ends_sums(leads, length, numbers):
    """For each state the sum of the numbers of the ends of its ways of so many signs."""
    for _ in range(length):
        numbers = one_sum(leads, numbers)
    return list(numbers)


def ways_grid(leads, length):
    """How many ways of so many signs lead from each state, a list of its own, to each state."""
    states = range(len(leads))
    columns = [ends_sums(leads, length, [1 if state == end else 0 for state in states]) for end in states]
    return [[column[state] for column in columns] for state in states]
