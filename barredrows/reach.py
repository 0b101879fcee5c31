"""Which states are reached from which; sets of states are numbers whose bits are the states."""


def bits_of(states):
    """The number with the bits of these states."""
    bits = 0
    for state in states:
        bits |= 1 << state
    return bits


def states_of(bits):
    """The sorted list of the states of a number."""
    return [state for state in range(bits.bit_length()) if bits >> state & 1]


def closed_reach(reached):
    """What is reached from each state by one or more steps, by what is reached by single ones."""
    closed = list(reached)
    for middle in range(len(closed)):
        further = closed[middle]
        closed = [bits | further if bits >> middle & 1 else bits for bits in closed]
    return closed


def part_of(closed, state):
    """The states that are reached from the state and from which it is reached."""
    return [other for other in states_of(closed[state]) if closed[other] >> state & 1]
