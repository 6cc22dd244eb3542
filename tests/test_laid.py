"""[3.1] to [3.3] and the interface of claspwork.laid."""

import itertools
import unittest

from claspwork.errors import Unlike
from claspwork.laid import apart_by, thread_score, threads
from claspwork.notes import read_work
from claspwork.works import plain_work, staves_in, work_by
from tests.helper import (
    LOOSE, MIXED, OWN_RINGS, RefusingCase, all_works, deeds_needed, great_works, plain_deeds, small_works, some_work,
)

# What a thread of each kind adds to the score.
WORTH = {"ring": 2, "odd": 1, "bare": 0, "tied": 0}


def some_pairs():
    """Pairs of works of as many staves: all of the smallest ones, some of the others."""
    pairs = []
    for staves in range(4):
        pairs += itertools.product(all_works(staves), repeat=2)
    works = all_works(4)
    pairs += itertools.product(works[::17], works[::13])
    works = great_works()
    pairs += itertools.product(works, works[::3])
    return pairs


class Threads(RefusingCase):
    def test_each_kind(self):
        # The one [0] [1], the other [0 1]: the clasp of the other has both its ends loose in the one.
        self.assertEqual(threads((0, 1, 2, 3), (0, 2, 1, 3)), [("odd", (0,)), ("bare", (1, 2)), ("odd", (3,))])
        self.assertEqual(threads((0, 2, 1, 3), (0, 1, 2, 3)), [("odd", (0,)), ("tied", (1, 2)), ("odd", (3,))])
        self.assertEqual(threads((0, 2, 1, 3), (0, 2, 1, 3)), [("odd", (0,)), ("ring", (1, 2)), ("odd", (3,))])
        # Rings of four ends: told from the least one on, the first two clasped in the one work.
        self.assertEqual(threads((3, 2, 1, 0), (1, 0, 3, 2)), [("ring", (0, 3, 2, 1))])
        self.assertEqual(threads((1, 0, 3, 2), (3, 2, 1, 0)), [("ring", (0, 1, 2, 3))])

    def test_odd_threads_are_told_from_the_end_that_is_loose_in_the_one(self):
        # 0 is loose in the one, 2 in the other.
        self.assertEqual(threads((0, 2, 1, 3), (1, 0, 2, 3)), [("odd", (0, 1, 2)), ("odd", (3,))])
        self.assertEqual(threads((1, 0, 2, 3), (0, 2, 1, 3)), [("odd", (2, 1, 0)), ("odd", (3,))])
        one = work_by(3, [(0, 3), (4, 5)])
        other = work_by(3, [(3, 4), (1, 5)])
        self.assertEqual(threads(one, other), [("odd", (1, 5, 4, 3, 0)), ("odd", (2,))])

    def test_bare_and_tied_threads_are_told_from_their_lesser_end_on(self):
        # Along it 5 - 0 - 2 - 3: the first and the last are 3 and 5, though 0 is less.
        one = work_by(3, [(0, 2)])
        other = work_by(3, [(0, 5), (2, 3)])
        self.assertEqual(threads(one, other), [("bare", (3, 2, 0, 5)), ("odd", (1,)), ("odd", (4,))])
        self.assertEqual(threads(other, one), [("tied", (3, 2, 0, 5)), ("odd", (1,)), ("odd", (4,))])

    def test_a_bare_and_a_tied_thread_together(self):
        self.assertEqual(threads((1, 0, 2, 3), (0, 1, 3, 2)), [("tied", (0, 1)), ("bare", (2, 3))])
        self.assertEqual(threads((0, 1, 3, 2), (1, 0, 2, 3)), [("bare", (0, 1)), ("tied", (2, 3))])

    def test_threads_stand_in_the_order_of_their_least_ends(self):
        # The thread of 0 is told from 3 on, but it stands first.
        one = work_by(4, [(0, 2), (6, 7)])
        other = work_by(4, [(0, 5), (2, 3), (6, 7)])
        told = [("bare", (3, 2, 0, 5)), ("odd", (1,)), ("odd", (4,)), ("ring", (6, 7))]
        self.assertEqual(threads(one, other), told)

    def test_edges(self):
        self.assertEqual(threads((), ()), [])
        self.assertEqual(threads((0, 1), (0, 1)), [("odd", (0,)), ("odd", (1,))])
        self.assertEqual(threads((1, 0), (1, 0)), [("ring", (0, 1))])
        self.assertEqual(threads((0, 1), (1, 0)), [("bare", (0, 1))])
        self.assertEqual(threads((1, 0), (0, 1)), [("tied", (0, 1))])
        self.assertEqual(threads(LOOSE, LOOSE), [("odd", (end,)) for end in range(80)])
        self.assertEqual(threads(OWN_RINGS, OWN_RINGS), [("ring", (end, end + 1)) for end in range(0, 80, 2)])
        self.assertEqual(threads(LOOSE, OWN_RINGS), [("bare", (end, end + 1)) for end in range(0, 80, 2)])
        self.assertEqual(threads(OWN_RINGS, LOOSE), [("tied", (end, end + 1)) for end in range(0, 80, 2)])
        self.assertEqual(threads(plain_work(40), OWN_RINGS), [("bare", tuple(range(80)))])
        self.assertEqual(threads(OWN_RINGS, plain_work(40)), [("tied", tuple(range(80)))])

    def check_thread(self, one, other, kind, ends):
        links = (one, other) if kind in ("ring", "tied") else (other, one)
        for place in range(1, len(ends)):
            self.assertEqual(links[(place - 1) % 2][ends[place - 1]], ends[place])
        first = ends[0]
        last = ends[-1]
        if kind == "ring":
            self.assertEqual(len(ends) % 2, 0)
            self.assertEqual(other[last], first)
            self.assertEqual(first, min(ends))
        elif kind == "odd":
            self.assertEqual(len(ends) % 2, 1)
            self.assertEqual((one[first], other[last]), (first, last))
        else:
            loose_in = one if kind == "bare" else other
            self.assertEqual(len(ends) % 2, 0)
            self.assertEqual((loose_in[first], loose_in[last]), (first, last))
            self.assertLess(first, last)

    def test_each_end_is_in_one_thread_that_is_told_rightly(self):
        kinds = set()
        for one, other in some_pairs():
            told = threads(one, other)
            self.assertIs(type(told), list)
            for thread in told:
                self.assertIs(type(thread), tuple)
                self.assertIs(type(thread[1]), tuple)
                self.check_thread(one, other, *thread)
                kinds.add((thread[0], min(len(thread[1]), 6)))
            self.assertEqual(sorted(end for kind, ends in told for end in ends), list(range(len(one))))
            least = [min(ends) for kind, ends in told]
            self.assertEqual(least, sorted(least))
        # So each kind was met, short and long.
        wanted = {(kind, many) for kind in ("ring", "bare", "tied") for many in (2, 4, 6)}
        self.assertLessEqual(wanted | {("odd", 1), ("odd", 3), ("odd", 5)}, kinds)


class ScoreAndApart(unittest.TestCase):
    def test_ordinary_works(self):
        one = read_work("[0 1 2]")
        for text, score, apart in (
            ("[0 1 2]", 6, 0), ("[0 -1 2]", 4, 1), ("(0 1 2)", 4, 1), ("[0] [1] [2]", 2, 2), ("[1 0 2]", 2, 2),
            ("(0) (1) (2)", 0, 3), ("[0 2 1]", 2, 2),
        ):
            self.assertEqual(thread_score(one, read_work(text)), score, text)
            self.assertEqual(apart_by(one, read_work(text)), apart, text)

    def test_edges(self):
        self.assertEqual((thread_score((), ()), apart_by((), ())), (0, 0))
        self.assertEqual((thread_score((0, 1), (0, 1)), apart_by((0, 1), (0, 1))), (2, 0))
        self.assertEqual((thread_score((0, 1), (1, 0)), apart_by((0, 1), (1, 0))), (0, 1))
        self.assertEqual((thread_score(LOOSE, OWN_RINGS), apart_by(LOOSE, OWN_RINGS)), (0, 40))
        self.assertEqual((thread_score(LOOSE, LOOSE), apart_by(LOOSE, LOOSE)), (80, 0))
        self.assertEqual((thread_score(LOOSE, plain_work(40)), apart_by(LOOSE, plain_work(40))), (2, 39))

    def test_the_score_counts_rings_twice_and_odd_threads_once(self):
        for one, other in some_pairs():
            score = thread_score(one, other)
            self.assertEqual(score, sum(WORTH[kind] for kind, ends in threads(one, other)))
            self.assertEqual(score % 2, 0)
            self.assertEqual(score == 2 * staves_in(one), one == other)
            self.assertEqual(score, thread_score(other, one))
            self.assertEqual(apart_by(one, other), staves_in(one) - score // 2)

    def test_no_deed_changes_the_score_by_more_than_two_and_some_deed_leads_nearer(self):
        works = all_works(3)
        for one, other in itertools.product(works[::3], works[::4]):
            score = thread_score(one, other)
            scores = [thread_score(behind, other) for behind in plain_deeds(one)]
            self.assertTrue(all(abs(behind - score) <= 2 for behind in scores))
            self.assertEqual(score + 2 in scores, one != other)

    def test_the_fewest_deeds_found_by_trying(self):
        starts = [work for work in small_works() if len(work) <= 6] + all_works(4)[::60]
        for one in starts:
            needed = deeds_needed(one)
            works = all_works(staves_in(one))
            self.assertEqual(len(needed), len(works))
            for other in works:
                self.assertEqual(apart_by(one, other), needed[other], (one, other))

    def test_great_works_are_led_together_by_nearer_deeds(self):
        one = some_work(12, 9, 1)
        other = some_work(12, 8, 2)
        apart = apart_by(one, other)
        self.assertGreater(apart, 5)
        while one != other:
            one = min(plain_deeds(one), key=lambda behind: apart_by(behind, other))
            apart -= 1
            self.assertEqual(apart_by(one, other), apart)
        self.assertEqual(apart, 0)


class UnlikeWorks(RefusingCase):
    def test_works_of_unlike_counts_are_refused(self):
        pairs = (((), (0, 1)), ((0, 1), (0, 1, 2, 3)), (MIXED, plain_work(4)), (plain_work(39), LOOSE), ((), OWN_RINGS))
        for call in (threads, thread_score, apart_by):
            for one, other in pairs:
                self.assert_refused(Unlike, call, one, other)
                self.assert_refused(Unlike, call, other, one)


if __name__ == "__main__":
    unittest.main()
