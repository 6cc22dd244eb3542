"""What the tests share: works to try, and how refusals are asked for."""

import random
import unittest

FAR = 10 ** 59

# Row [0 -2], ring (1 -3), and stave 4 clasped to itself.
MIXED = (0, 5, 6, 7, 4, 1, 2, 3, 9, 8)


def all_works(staves):
    """Every work of so many staves."""
    works = []

    def settle(mates, end):
        if end == len(mates):
            works.append(tuple(mates))
        elif mates[end] is not None:
            settle(mates, end + 1)
        else:
            for mate in range(end, len(mates)):
                if mates[mate] is None:
                    tried = list(mates)
                    tried[end] = mate
                    tried[mate] = end
                    settle(tried, end + 1)

    settle([None] * (2 * staves), 0)
    return works


def small_works():
    return [work for staves in range(5) for work in all_works(staves)]


def some_work(staves, clasps, seed):
    """A work of so many staves with so many clasps, the same one for the same seed."""
    ends = list(range(2 * staves))
    random.Random(seed).shuffle(ends)
    mates = list(range(2 * staves))
    for place in range(0, 2 * clasps, 2):
        mates[ends[place]] = ends[place + 1]
        mates[ends[place + 1]] = ends[place]
    return tuple(mates)


def great_works():
    return [some_work(40, clasps, seed) for clasps in (0, 1, 20, 35, 39, 40) for seed in range(5)]


def wrong_ends(ends):
    """Numbers that are no ends where there are so many ends."""
    return [-1, -2, -ends, -ends - 1, -FAR, ends, ends + 1, 2 * ends + 1, FAR, 10 * FAR - 1]


def refusal_of(call, *handed):
    """The error that a call raises, or None."""
    try:
        call(*handed)
    except Exception as error:
        return error
    return None


class RefusingCase(unittest.TestCase):
    def assert_refused(self, error_class, call, *handed):
        """That the call is refused with just this class, none under or above it."""
        self.assertIs(type(refusal_of(call, *handed)), error_class, handed)
