"""Tables of the media that are made without one."""


def free_table(signs):
    return [{sign: 0 for sign in signs}]


def barring_table(signs, words):
    """A table for the rows in which no word stands."""
    # A state is what may still become a word: the longest end of the row that begins one.
    starts = sorted({word[:length] for word in words for length in range(len(word))})
    numbers = {start: number for number, start in enumerate(starts)}
    return [barring_state(start, signs, words, numbers) for start in starts]


def barring_state(start, signs, words, numbers):
    leading = {}
    for sign in signs:
        row = start + sign
        if not any([row.endswith(word) for word in words]):
            ends = [row[at:] for at in range(len(row) + 1)]
            leading[sign] = [numbers[end] for end in ends if end in numbers][0]
    return leading


def runs_table(signs, limits):
    """A table for the rows in which no sign stands more often in succession than its limit."""
    # The place of a sign without a limit is ("", 0), as of the beginning.
    places = [("", 0)] + [(sign, often) for sign in sorted(limits) for often in range(1, limits[sign] + 1)]
    numbers = {place: number for number, place in enumerate(places)}
    return [runs_state(place, signs, limits, numbers) for place in places]


def runs_state(place, signs, limits, numbers):
    last, often = place
    leading = {}
    for sign in signs:
        if sign not in limits:
            leading[sign] = 0
        elif sign != last:
            leading[sign] = numbers[sign, 1]
        elif often < limits[sign]:
            leading[sign] = numbers[sign, often + 1]
    return leading


def sums_table(signs, steps, low, high):
    """A table for the rows whose sums of steps stay within the bounds."""
    sums = [0] + [number for number in range(low, high + 1) if number != 0]
    numbers = {total: number for number, total in enumerate(sums)}
    return [
        {sign: numbers[total + step] for sign, step in zip(signs, steps) if total + step in numbers}
        for total in sums
    ]
