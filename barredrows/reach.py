"""Which states are reached from which; sets of states are numbers whose bits are the states."""


def states_of(bits):
    """The sorted list of the states of a number."""
    return [state for state in range(bits.bit_length()) if bits >> state & 1]


def reached_after(leads, length):
    """The ends of all ways of so many signs, by barredrows.steps, from each state."""
    states = range(len(leads) - 1)
    single = [bits_of([to for to in ends if to < len(states)]) for ends in leads[:-1]]
    reached = [1 << state for state in states]
    for further in range(length.bit_length() - 1, -1, -1):
        reached = [from_all(bits, reached) for bits in reached]
        if length >> further & 1:
            reached = [from_all(bits, reached) for bits in single]
    return reached


def bits_of(states):
    """The number with the bits of these states."""
    bits = 0
    for state in states:
        bits |= 1 << state
    return bits


def from_all(bits, reached):
    """What is reached from any of the states."""
    found = 0
    for state in states_of(bits):
        found |= reached[state]
    return found


def closed_reach(reached):
    """What is reached from each state by one or more steps, by what is reached by single ones."""
    closed = list(reached)
    for middle in range(len(reached)):
        further = closed[middle]
        closed = [bits | further if bits >> middle & 1 else bits for bits in closed]
    return closed


def part_of(closed, state):
    """The states that are reached from the state and from which it is reached."""
    return [other for other in states_of(closed[state]) if closed[other] >> state & 1]
