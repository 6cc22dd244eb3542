"""What the tests share: works to try, and how refusals are asked for."""

import random
import unittest

FAR = 10 ** 59

# Row [0 -2], ring (1 -3), and stave 4 clasped to itself.
MIXED = (0, 5, 6, 7, 4, 1, 2, 3, 9, 8)


def all_works(staves):
    """Every work of so many staves."""
    works = []

    def settle(mates, end):
        if end == len(mates):
            works.append(tuple(mates))
        elif mates[end] is not None:
            settle(mates, end + 1)
        else:
            for mate in range(end, len(mates)):
                if mates[mate] is None:
                    tried = list(mates)
                    tried[end] = mate
                    tried[mate] = end
                    settle(tried, end + 1)

    settle([None] * (2 * staves), 0)
    return works


def small_works():
    return [work for staves in range(5) for work in all_works(staves)]


def some_work(staves, clasps, seed):
    """A work of so many staves with so many clasps, the same one for the same seed."""
    ends = list(range(2 * staves))
    random.Random(seed).shuffle(ends)
    mates = list(range(2 * staves))
    for place in range(0, 2 * clasps, 2):
        mates[ends[place]] = ends[place + 1]
        mates[ends[place + 1]] = ends[place]
    return tuple(mates)


def great_works():
    return [some_work(40, clasps, seed) for clasps in (0, 1, 20, 35, 39, 40) for seed in range(5)]


def told_backward(chain):
    return tuple(end ^ 1 for end in reversed(chain))


def tellings(ring):
    """All tuples that tell the same ring: from each stave on, in both ways."""
    told = []
    for way in (tuple(ring), told_backward(ring)):
        for place in range(len(way)):
            told.append(way[place:] + way[:place])
    return told


def wrong_ends(ends):
    """Numbers that are no ends where there are so many ends."""
    return [-1, -2, -ends, -ends - 1, -FAR, ends, ends + 1, 2 * ends + 1, FAR, 10 * FAR - 1]


def wrong_pairs(ends):
    """Pairs of numbers of which one at least is no end where there are so many ends."""
    pairs = []
    for wrong in wrong_ends(ends):
        pairs += [(wrong, wrong), (0, wrong), (wrong, 0), (ends - 1, wrong), (wrong, ends - 1)]
    return pairs


def all_pairs(ends):
    """Every pair of ends, and pairs just beyond them."""
    return [(p, q) for p in range(-2, ends + 2) for q in range(-2, ends + 2)]


def plain_fit(work, p, q):
    """[2.2] word by word."""
    if p not in range(len(work)) or q not in range(len(work)) or p > q:
        return False
    if p == q:
        return work[p] != p
    return work[p] != q


def plain_behind(work, p, q):
    """[2.1] word by word, over the clasps as sets of two ends."""
    clasps = {frozenset((end, mate)) for end, mate in enumerate(work) if end != mate}
    met = [clasp for clasp in clasps if p in clasp or q in clasp]
    left = [end for clasp in met for end in clasp if end not in (p, q)]
    clasps -= set(met)
    if p != q:
        clasps.add(frozenset((p, q)))
        if len(left) == 2:
            clasps.add(frozenset(left))
    mates = list(range(len(work)))
    for one, other in clasps:
        mates[one] = other
        mates[other] = one
    return tuple(mates)


def plain_deeds(work):
    """For each work that one deed leads to, in the order of their least pairs, that pair."""
    least = {}
    for p in range(len(work)):
        for q in range(len(work)):
            if plain_fit(work, p, q):
                least.setdefault(plain_behind(work, p, q), (p, q))
    return least


def refusal_of(call, *handed):
    """The error that a call raises, or None."""
    try:
        call(*handed)
    except Exception as error:
        return error
    return None


class RefusingCase(unittest.TestCase):
    def assert_refused(self, error_class, call, *handed):
        """That the call is refused with just this class, none under or above it."""
        self.assertIs(type(refusal_of(call, *handed)), error_class, handed)
