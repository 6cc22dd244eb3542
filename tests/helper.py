"""What the tests share: works to try, what is found by plain trying, and how refusals are asked for."""

import functools
import itertools
import random
import time
import unittest

from claspwork.laid import threads

FAR = 10 ** 59
LOOSE = tuple(range(80))
OWN_RINGS = tuple(end ^ 1 for end in range(80))

# Row [0 -2], ring (1 -3), and stave 4 clasped to itself.
MIXED = (0, 5, 6, 7, 4, 1, 2, 3, 9, 8)

# Works of unlike counts of staves, in both orders each.
UNLIKE = [((), (0, 1)), ((0, 1), (0, 1, 2, 3)), (MIXED, tuple(range(8))), (tuple(range(78)), LOOSE), ((), OWN_RINGS)]
UNLIKE += [(other, one) for one, other in UNLIKE]

# Threads for `shaped_works` that lack twelve deeds together, without a bare and a tied one both.
PLAIN_SHAPES = [[(kind, 12)] for kind in ("ring", "odd", "bare", "tied")]
PLAIN_SHAPES += [[(kind, 1)] * 12 for kind in ("ring", "odd", "bare", "tied")]
PLAIN_SHAPES += [
    [("ring", 4), ("odd", 4), ("bare", 4)], [("ring", 5), ("odd", 4), ("tied", 3)], [("ring", 6), ("ring", 6)],
    [("bare", 7), ("bare", 5)], [("tied", 7), ("tied", 5)], [("odd", 11), ("odd", 1)],
]
# Such that lack six, with both, and how many fewest rows they have, as once counted by trying all deeds.
CROSSING_SHAPES = [
    ([("bare", 3), ("tied", 3)], 35204), ([("bare", 1)] * 3 + [("tied", 1)] * 3, 100080),
    ([("bare", 5), ("tied", 1)], 35140), ([("bare", 1), ("tied", 5)], 35140), ([("bare", 2), ("tied", 4)], 35249),
    ([("bare", 2), ("bare", 2), ("tied", 2)], 21150),
]


def all_works(staves):
    """Every work of so many staves."""
    works = []

    def settle(mates, end):
        if end == len(mates):
            works.append(tuple(mates))
        elif mates[end] is not None:
            settle(mates, end + 1)
        else:
            for mate in range(end, len(mates)):
                if mates[mate] is None:
                    tried = list(mates)
                    tried[end] = mate
                    tried[mate] = end
                    settle(tried, end + 1)

    settle([None] * (2 * staves), 0)
    return works


def small_works():
    return [work for staves in range(5) for work in all_works(staves)]


def some_work(staves, clasps, seed):
    """A work of so many staves with so many clasps, the same one for the same seed."""
    ends = list(range(2 * staves))
    random.Random(seed).shuffle(ends)
    mates = list(range(2 * staves))
    for place in range(0, 2 * clasps, 2):
        mates[ends[place]] = ends[place + 1]
        mates[ends[place + 1]] = ends[place]
    return tuple(mates)


def great_works():
    return [some_work(40, clasps, seed) for clasps in (0, 1, 20, 35, 39, 40) for seed in range(5)]


def shaped_works(staves, shape, seed=None):
    """Two works that laid together have threads as `shape` tells, in pairs of a kind and how many deeds it lacks.

    Ends beyond these threads are loose in both. With a seed the ends are mixed.
    """
    ends = list(range(2 * staves))
    if seed is not None:
        random.Random(seed).shuffle(ends)
    one = list(range(2 * staves))
    other = list(range(2 * staves))
    for kind, lack in shape:
        many = 2 * lack + {"ring": 2, "odd": 1, "bare": 0, "tied": 0}[kind]
        thread = ends[:many]
        ends = ends[many:]
        assert len(thread) == many
        links = (one, other) if kind in ("ring", "tied") else (other, one)
        for place in range(many if kind == "ring" else many - 1):
            first = thread[place]
            second = thread[(place + 1) % many]
            links[place % 2][first] = second
            links[place % 2][second] = first
    return tuple(one), tuple(other)


def has_crossing(one, other):
    """Whether the works laid together have a bare and a tied thread both."""
    kinds = [kind for kind, ends in threads(one, other)]
    return "bare" in kinds and "tied" in kinds


def row_pairs():
    """Pairs of works that are small enough for all their fewest rows to be found by trying."""
    pairs = []
    for staves in range(3):
        pairs += itertools.product(all_works(staves), repeat=2)
    pairs += itertools.product(all_works(3)[::5], all_works(3)[::4])
    pairs += itertools.product(all_works(4)[::110], all_works(4)[::130])
    for kind in ("ring", "odd", "bare", "tied"):
        pairs += [shaped_works(4, [("bare", 1), ("tied", 1), (kind, 1)], seed) for seed in range(3)]
    for bare, tied in ((1, 1), (1, 2), (2, 1), (2, 2), (1, 3), (3, 1)):
        pairs += [shaped_works(4, [("bare", bare), ("tied", tied)], seed) for seed in range(2)]
    return pairs


def told_backward(chain):
    return tuple(end ^ 1 for end in reversed(chain))


def tellings(ring):
    """All tuples that tell the same ring: from each stave on, in both ways."""
    told = []
    for way in (tuple(ring), told_backward(ring)):
        for place in range(len(way)):
            told.append(way[place:] + way[:place])
    return told


def wrong_ends(ends):
    """Numbers that are no ends where there are so many ends."""
    return [-1, -2, -ends, -ends - 1, -FAR, ends, ends + 1, 2 * ends + 1, FAR, 10 * FAR - 1]


def wrong_pairs(ends):
    """Pairs of numbers of which one at least is no end where there are so many ends."""
    pairs = []
    for wrong in wrong_ends(ends):
        pairs += [(wrong, wrong), (0, wrong), (wrong, 0), (ends - 1, wrong), (wrong, ends - 1)]
    return pairs


def all_pairs(ends):
    """Every pair of ends, and pairs just beyond them."""
    return [(p, q) for p in range(-2, ends + 2) for q in range(-2, ends + 2)]


def plain_fit(work, p, q):
    """[2.2] word by word."""
    if p not in range(len(work)) or q not in range(len(work)) or p > q:
        return False
    if p == q:
        return work[p] != p
    return work[p] != q


def plain_behind(work, p, q):
    """[2.1] word by word, over the clasps as sets of two ends."""
    clasps = {frozenset((end, mate)) for end, mate in enumerate(work) if end != mate}
    met = [clasp for clasp in clasps if p in clasp or q in clasp]
    left = [end for clasp in met for end in clasp if end not in (p, q)]
    clasps -= set(met)
    if p != q:
        clasps.add(frozenset((p, q)))
        if len(left) == 2:
            clasps.add(frozenset(left))
    mates = list(range(len(work)))
    for one, other in clasps:
        mates[one] = other
        mates[other] = one
    return tuple(mates)


def plain_deeds(work):
    """For each work that one deed leads to, in the order of their least pairs, that pair."""
    least = {}
    for p in range(len(work)):
        for q in range(len(work)):
            if plain_fit(work, p, q):
                least.setdefault(plain_behind(work, p, q), (p, q))
    return least


kept_deeds = functools.lru_cache(maxsize=None)(plain_deeds)


@functools.lru_cache(maxsize=None)
def deeds_needed(start):
    """How many deeds lead from a work to each work of its staves, found by trying."""
    needed = {start: 0}
    fresh = [start]
    while fresh:
        behind = []
        for work in fresh:
            for onward in kept_deeds(work):
                if onward not in needed:
                    needed[onward] = needed[work] + 1
                    behind.append(onward)
        fresh = behind
    return needed


def plain_nearer(one, other):
    """The works behind the nearer deeds, each with its least pair, found by trying."""
    needed = deeds_needed(other)
    return [(deed, behind) for behind, deed in kept_deeds(one).items() if needed[behind] == needed[one] - 1]


def plain_rows(one, other):
    """All fewest rows of deeds, found by trying, in ascending order."""
    if one == other:
        return [[]]
    rows = []
    for deed, behind in plain_nearer(one, other):
        rows += [[deed] + row for row in plain_rows(behind, other)]
    return sorted(rows)


def refusal_of(call, *handed):
    """The error that a call raises, or None."""
    try:
        call(*handed)
    except Exception as error:
        return error
    return None


class RefusingCase(unittest.TestCase):
    def assert_refused(self, error_class, call, *handed):
        """That the call is refused with just this class, none under or above it."""
        self.assertIs(type(refusal_of(call, *handed)), error_class, handed)

    def assert_soon(self, call, *handed):
        """What the call tells, which must come within a few seconds."""
        begun = time.perf_counter()
        told = call(*handed)
        self.assertLess(time.perf_counter() - begun, 5)
        return told
