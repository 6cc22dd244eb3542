"""The framed row: its gaps, the ties that meet them, the rings of ties, and the kins."""


def framed(row):
    return (0,) + row + (len(row) + 1,)


def open_gaps(row):
    numbers = framed(row)
    return [gap for gap in range(len(row) + 1) if numbers[gap + 1] != numbers[gap] + 1]


def tie_gaps(row):
    leaving = {}
    coming = {}
    for place, number in enumerate(framed(row)):
        leaving[abs(number)] = place - 1 if number < 0 else place
        coming[abs(number)] = place if number < 0 else place - 1
    return [(leaving[tie], coming[tie + 1]) for tie in range(len(row) + 1)]


def ties_crossed(row):
    # The frame's two numbers stand nowhere in the row itself, so they have no minus here either.
    return [tie for tie in range(len(row) + 1) if (-tie in row) != (-tie - 1 in row)]


def tie_rings(row):
    return hung_together(tie_gaps(row))


def hung_together(pairs):
    # Pairs hang together that have a number in common, or do so by others between; told are their places in the list.
    groups = {}
    for first, second in pairs:
        kept = groups.setdefault(first, first)
        lost = groups.setdefault(second, second)
        for number in list(groups):
            if groups[number] == lost:
                groups[number] = kept
    found = {}
    for place, pair in enumerate(pairs):
        found.setdefault(groups[pair[0]], []).append(place)
    return [tuple(places) for places in found.values()]


def kin_spans(row):
    numbers = framed(row)
    spans = [(first, kin_end(numbers, first)) for first in range(len(numbers))]
    return [span for span in spans if span[1] is not None]


def kin_end(numbers, first):
    # Of the whole stretches that begin at one place the shortest is the only kin: each longer one is put together of
    # it and of what follows, which is whole, too.
    begin = numbers[first]
    sign = -1 if begin < 0 else 1
    highest = begin
    for last in range(first + 1, len(numbers)):
        amount = sign * abs(numbers[last])
        if amount < begin:
            return None
        highest = max(highest, amount)
        if numbers[last] == highest == begin + last - first:
            return last
    return None


def gap_kins(row):
    told = {}
    # A kin within another one begins later, so the shorter one comes later, and stays.
    for first, last in kin_spans(row):
        for gap in range(first, last):
            told[gap] = (first, last)
    return [told[gap] for gap in range(len(row) + 1)]
