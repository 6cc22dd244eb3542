"""What the tests share: works to try, what is found by plain trying, and how refusals are asked for."""

import functools
import itertools
import random
import time
import unittest

from claspwork.laid import threads
from claspwork.turns import plain_row, turn_about, turns_all

FAR = 10 ** 59
LOOSE = tuple(range(80))
OWN_RINGS = tuple(end ^ 1 for end in range(80))

# Row [0 -2], ring (1 -3), and stave 4 clasped to itself.
MIXED = (0, 5, 6, 7, 4, 1, 2, 3, 9, 8)

# Works of unlike counts of staves, in both orders each.
UNLIKE = [((), (0, 1)), ((0, 1), (0, 1, 2, 3)), (MIXED, tuple(range(8))), (tuple(range(78)), LOOSE), ((), OWN_RINGS)]
UNLIKE += [(other, one) for one, other in UNLIKE]

# Threads for `shaped_works` that lack twelve deeds together, without a bare and a tied one both.
PLAIN_SHAPES = [[(kind, 12)] for kind in ("ring", "odd", "bare", "tied")]
PLAIN_SHAPES += [[(kind, 1)] * 12 for kind in ("ring", "odd", "bare", "tied")]
PLAIN_SHAPES += [
    [("ring", 4), ("odd", 4), ("bare", 4)], [("ring", 5), ("odd", 4), ("tied", 3)], [("ring", 6), ("ring", 6)],
    [("bare", 7), ("bare", 5)], [("tied", 7), ("tied", 5)], [("odd", 11), ("odd", 1)],
]
# Such that lack six, with both, and how many fewest rows they have, as once counted by trying all deeds.
CROSSING_SHAPES = [
    ([("bare", 3), ("tied", 3)], 35204), ([("bare", 1)] * 3 + [("tied", 1)] * 3, 100080),
    ([("bare", 5), ("tied", 1)], 35140), ([("bare", 1), ("tied", 5)], 35140), ([("bare", 2), ("tied", 4)], 35249),
    ([("bare", 2), ("bare", 2), ("tied", 2)], 21150),
]

FORTY = tuple(range(1, 41))
BACKWARD = tuple(range(-40, 0))
EVERY_OTHER = tuple(number if number % 2 else -number for number in range(40, 0, -1))


def all_works(staves):
    """Every work of so many staves."""
    works = []

    def settle(mates, end):
        if end == len(mates):
            works.append(tuple(mates))
        elif mates[end] is not None:
            settle(mates, end + 1)
        else:
            for mate in range(end, len(mates)):
                if mates[mate] is None:
                    tried = list(mates)
                    tried[end] = mate
                    tried[mate] = end
                    settle(tried, end + 1)

    settle([None] * (2 * staves), 0)
    return works


def small_works():
    return [work for staves in range(5) for work in all_works(staves)]


def some_work(staves, clasps, seed):
    """A work of so many staves with so many clasps, the same one for the same seed."""
    ends = list(range(2 * staves))
    random.Random(seed).shuffle(ends)
    mates = list(range(2 * staves))
    for place in range(0, 2 * clasps, 2):
        mates[ends[place]] = ends[place + 1]
        mates[ends[place + 1]] = ends[place]
    return tuple(mates)


def great_works():
    return [some_work(40, clasps, seed) for clasps in (0, 1, 20, 35, 39, 40) for seed in range(5)]


def shaped_works(staves, shape, seed=None):
    """Two works that laid together have threads as `shape` tells, in pairs of a kind and how many deeds it lacks.

    Ends beyond these threads are loose in both. With a seed the ends are mixed.
    """
    ends = list(range(2 * staves))
    if seed is not None:
        random.Random(seed).shuffle(ends)
    one = list(range(2 * staves))
    other = list(range(2 * staves))
    for kind, lack in shape:
        many = 2 * lack + {"ring": 2, "odd": 1, "bare": 0, "tied": 0}[kind]
        thread = ends[:many]
        ends = ends[many:]
        assert len(thread) == many
        links = (one, other) if kind in ("ring", "tied") else (other, one)
        for place in range(many if kind == "ring" else many - 1):
            first = thread[place]
            second = thread[(place + 1) % many]
            links[place % 2][first] = second
            links[place % 2][second] = first
    return tuple(one), tuple(other)


def has_crossing(one, other):
    """Whether the works laid together have a bare and a tied thread both."""
    kinds = [kind for kind, ends in threads(one, other)]
    return "bare" in kinds and "tied" in kinds


def row_pairs():
    """Pairs of works that are small enough for all their fewest rows to be found by trying."""
    pairs = []
    for staves in range(3):
        pairs += itertools.product(all_works(staves), repeat=2)
    pairs += itertools.product(all_works(3)[::5], all_works(3)[::4])
    pairs += itertools.product(all_works(4)[::110], all_works(4)[::130])
    for kind in ("ring", "odd", "bare", "tied"):
        pairs += [shaped_works(4, [("bare", 1), ("tied", 1), (kind, 1)], seed) for seed in range(3)]
    for bare, tied in ((1, 1), (1, 2), (2, 1), (2, 2), (1, 3), (3, 1)):
        pairs += [shaped_works(4, [("bare", bare), ("tied", tied)], seed) for seed in range(2)]
    return pairs


def told_backward(chain):
    return tuple(end ^ 1 for end in reversed(chain))


def tellings(ring):
    """All tuples that tell the same ring: from each stave on, in both ways."""
    told = []
    for way in (tuple(ring), told_backward(ring)):
        for place in range(len(way)):
            told.append(way[place:] + way[:place])
    return told


def wrong_ends(ends):
    """Numbers that are no ends where there are so many ends."""
    return [-1, -2, -ends, -ends - 1, -FAR, ends, ends + 1, 2 * ends + 1, FAR, 10 * FAR - 1]


def wrong_pairs(ends):
    """Pairs of numbers of which one at least is no end where there are so many ends."""
    pairs = []
    for wrong in wrong_ends(ends):
        pairs += [(wrong, wrong), (0, wrong), (wrong, 0), (ends - 1, wrong), (wrong, ends - 1)]
    return pairs


def all_pairs(ends):
    """Every pair of ends, and pairs just beyond them."""
    return [(p, q) for p in range(-2, ends + 2) for q in range(-2, ends + 2)]


def plain_fit(work, p, q):
    """[2.2] word by word."""
    if p not in range(len(work)) or q not in range(len(work)) or p > q:
        return False
    if p == q:
        return work[p] != p
    return work[p] != q


def plain_behind(work, p, q):
    """[2.1] word by word, over the clasps as sets of two ends."""
    clasps = {frozenset((end, mate)) for end, mate in enumerate(work) if end != mate}
    met = [clasp for clasp in clasps if p in clasp or q in clasp]
    left = [end for clasp in met for end in clasp if end not in (p, q)]
    clasps -= set(met)
    if p != q:
        clasps.add(frozenset((p, q)))
        if len(left) == 2:
            clasps.add(frozenset(left))
    mates = list(range(len(work)))
    for one, other in clasps:
        mates[one] = other
        mates[other] = one
    return tuple(mates)


def plain_deeds(work):
    """For each work that one deed leads to, in the order of their least pairs, that pair."""
    least = {}
    for p in range(len(work)):
        for q in range(len(work)):
            if plain_fit(work, p, q):
                least.setdefault(plain_behind(work, p, q), (p, q))
    return least


kept_deeds = functools.lru_cache(maxsize=None)(plain_deeds)


def steps_needed(start, ways_on):
    """How many steps lead from a start to each thing, found by trying; `ways_on` tells what one step leads to."""
    needed = {start: 0}
    fresh = [start]
    while fresh:
        behind = []
        for thing in fresh:
            for onward in ways_on(thing):
                if onward not in needed:
                    needed[onward] = needed[thing] + 1
                    behind.append(onward)
        fresh = behind
    return needed


@functools.lru_cache(maxsize=None)
def deeds_needed(start):
    """How many deeds lead from a work to each work of its staves, found by trying."""
    return steps_needed(start, kept_deeds)


def plain_nearer(one, other):
    """The works behind the nearer deeds, each with its least pair, found by trying."""
    needed = deeds_needed(other)
    return [(deed, behind) for behind, deed in kept_deeds(one).items() if needed[behind] == needed[one] - 1]


def plain_rows(one, other):
    """All fewest rows of deeds, found by trying, in ascending order."""
    if one == other:
        return [[]]
    rows = []
    for deed, behind in plain_nearer(one, other):
        rows += [[deed] + row for row in plain_rows(behind, other)]
    return sorted(rows)


def all_rows(many):
    """Every signed row of so many numbers."""
    rows = []
    for amounts in itertools.permutations(range(1, many + 1)):
        for signs in itertools.product((1, -1), repeat=many):
            rows.append(tuple(amount * sign for amount, sign in zip(amounts, signs)))
    return rows


def small_rows():
    return [row for many in range(5) for row in all_rows(many)]


def some_row(many, seed):
    chance = random.Random(seed)
    amounts = list(range(1, many + 1))
    chance.shuffle(amounts)
    return tuple(amount * chance.choice((1, -1)) for amount in amounts)


def great_rows():
    return [FORTY, BACKWARD, EVERY_OTHER] + [some_row(40, seed) for seed in range(6)]


def edge_rows():
    """No numbers, one, the plain row, the plain row turned about, and all numbers with a minus."""
    rows = [(), (1,), (-1,)]
    for many in (2, 16, 40):
        rows += [tuple(range(1, many + 1)), tuple(range(-many, 0)), tuple(range(-1, -many - 1, -1))]
        rows.append(tuple(-abs(number) for number in some_row(many, many)))
    return rows


def lifted(block, amount):
    """The block with each of its amounts so much greater."""
    return tuple(number + amount if number > 0 else number - amount for number in block)


def kin_block(pattern, within=()):
    """A whole stretch: the numbers of the pattern in a frame, for some of them whole stretches laid in.

    A whole stretch is told as a tuple that begins with 1; `within` tells pairs of an amount and what is laid in for it.
    """
    blocks = {amount: (1,) for amount in range(1, len(pattern) + 1)}
    blocks.update(within)
    many = 1
    for amount in sorted(blocks):
        blocks[amount] = lifted(blocks[amount], many)
        many += len(blocks[amount])
    inner = []
    for number in pattern:
        block = blocks[abs(number)]
        inner += block if number > 0 else [-turned for turned in reversed(block)]
    return (1, *inner, many + 1)


def glued(*blocks):
    """One whole stretch of several, each of which begins where the one ahead of it ends."""
    whole = (1,)
    for block in blocks:
        whole += lifted(block, len(whole) - 1)[1:]
    return whole


def block_row(block):
    """The signed row that is this whole stretch when it is framed."""
    return lifted(block[1:-1], -1)


SHUT = kin_block(())
KNOT = kin_block((2, 1))
# Two knots, the one within the other, and three.
DOUBLE = kin_block((2, 1), [(2, KNOT)])
TRIPLE = kin_block((2, 1), [(2, DOUBLE)])
# What stands in the frame of a kin; the first one is a shut gap.
PATTERNS = (
    (), (2, 1), (2, 1), (2, 1), (3, 2, 1), (2, 4, 1, 3), (3, 1, 2), (-1,), (-1,), (2, -1), (-2, 1), (-2, -1),
    (-2, 4, -1, 3), (-1, -2),
)


def some_block(gaps, chance):
    """A whole stretch with so many gaps, of kins within kins and behind one another."""
    if gaps == 0:
        return (1,)
    pattern = chance.choice([pattern for pattern in PATTERNS if len(pattern) < gaps])
    shares = [0] * (len(pattern) + 1)
    for gap in range(gaps - len(pattern) - 1):
        shares[chance.randrange(len(shares))] += 1
    within = [(amount, some_block(share, chance)) for amount, share in enumerate(shares) if amount > 0]
    return glued(kin_block(pattern, within), some_block(shares[0], chance))


def nested_rows(many, rows):
    """So many rows of so many numbers, made of kins within kins."""
    return [block_row(some_block(many + 1, random.Random(seed))) for seed in range(rows)]


def turned_rows(row):
    """For each turn, ascending, the row behind it."""
    return {turn: turn_about(row, *turn) for turn in turns_all(len(row))}


@functools.lru_cache(maxsize=None)
def turns_needed(many):
    """How many turns lead each row of so many numbers to the plain one, found by trying."""
    return steps_needed(plain_row(many), lambda row: turned_rows(row).values())


def refusal_of(call, *handed):
    """The error that a call raises, or None."""
    try:
        call(*handed)
    except Exception as error:
        return error
    return None


class RefusingCase(unittest.TestCase):
    def assert_refused(self, error_class, call, *handed):
        """That the call is refused with just this class, none under or above it."""
        self.assertIs(type(refusal_of(call, *handed)), error_class, handed)

    def assert_soon(self, call, *handed):
        """What the call tells, which must come within a few seconds."""
        begun = time.perf_counter()
        told = call(*handed)
        self.assertLess(time.perf_counter() - begun, 5)
        return told
