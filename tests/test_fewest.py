"""[3.3], [3.4] and the interface of claspwork.fewest."""

import itertools
import unittest

from claspwork.deeds import all_deeds, reclasped
from claspwork.errors import NoPaper, Unlike
from claspwork.fewest import fewest_deeds, judged_paper, nearer_deeds, paper_for
from claspwork.laid import apart_by, threads
from claspwork.notes import read_work
from claspwork.works import plain_work, staves_in, work_by
from tests.helper import (
    FAR, LOOSE, MIXED, OWN_RINGS, RefusingCase, UNLIKE, all_works, deeds_needed, great_works, plain_behind,
    plain_deeds, plain_nearer, shaped_works, some_work, wrong_pairs,
)

# The longest threads that works of 40 staves have, and many short ones.
LONGEST = (
    (LOOSE, OWN_RINGS), (OWN_RINGS, LOOSE), (plain_work(40), OWN_RINGS), (OWN_RINGS, plain_work(40)),
    shaped_works(40, [("ring", 39)], 1), shaped_works(40, [("odd", 20), ("odd", 19)], 2),
    shaped_works(40, [("bare", 20), ("tied", 20)], 3), shaped_works(40, [("bare", 1), ("tied", 1)] * 20, 4),
    shaped_works(40, [("bare", 39), ("tied", 1)], 5), shaped_works(40, [("bare", 1), ("tied", 39)], 6),
)


def small_pairs():
    pairs = []
    for staves in range(3):
        pairs += itertools.product(all_works(staves), repeat=2)
    pairs += itertools.product(all_works(3)[::2], all_works(3)[::3])
    pairs += itertools.product(all_works(4)[::29], all_works(4)[::23])
    return pairs


def great_pairs():
    works = great_works()
    return list(zip(works, works[3:] + works[:3])) + list(LONGEST)


class NearerDeeds(RefusingCase):
    def test_ordinary_works(self):
        one = read_work("[0 1 2]")
        for text, deeds in (
            ("[0 1 2]", []), ("[0 -1 2]", [(1, 3)]), ("(0 1 2)", [(0, 5)]), ("[0] [1] [2]", [(1, 1), (3, 3)]),
            # An odd thread 5 - 4 - 3 - 1 - 2.
            ("[0 -1] (2)", [(1, 3), (1, 5), (4, 5)]),
        ):
            self.assertEqual(nearer_deeds(one, read_work(text)), deeds, text)

    def test_each_kind_of_thread(self):
        # A ring of four ends, an odd thread of three, a bare and a tied one of two: one deed each.
        self.assertEqual(nearer_deeds((3, 2, 1, 0), (1, 0, 3, 2)), [(0, 1)])
        self.assertEqual(nearer_deeds((0, 2, 1, 3), (1, 0, 2, 3)), [(0, 1)])
        self.assertEqual(nearer_deeds((0, 1), (1, 0)), [(0, 1)])
        self.assertEqual(nearer_deeds((1, 0), (0, 1)), [(0, 0)])
        # A bare and a tied one: each by itself, and one made of both by four deeds more.
        self.assertEqual(nearer_deeds((0, 1, 3, 2), (1, 0, 2, 3)), [(0, 1), (0, 2), (0, 3), (1, 2), (1, 3), (2, 2)])
        self.assertEqual(nearer_deeds((1, 0, 2, 3), (0, 1, 3, 2)), [(0, 0), (0, 2), (0, 3), (1, 2), (1, 3), (2, 3)])

    def test_two_odd_two_bare_and_two_tied_threads_give_nothing_together(self):
        for kind in ("odd", "bare", "tied", "ring"):
            one, other = shaped_works(6, [(kind, 1), (kind, 1)], 8)
            self.assertEqual(len(nearer_deeds(one, other)), 2, kind)

    def test_edges(self):
        self.assertEqual(nearer_deeds((), ()), [])
        for work in (LOOSE, OWN_RINGS, plain_work(40), MIXED, (0, 1), (1, 0)):
            self.assertEqual(nearer_deeds(work, work), [])
        self.assertEqual(nearer_deeds(LOOSE, OWN_RINGS), [(end, end + 1) for end in range(0, 80, 2)])
        self.assertEqual(nearer_deeds(OWN_RINGS, LOOSE), [(end, end) for end in range(0, 80, 2)])

    def test_all_deeds_of_small_works(self):
        for one, other in small_pairs():
            nearer = nearer_deeds(one, other)
            self.assertIs(type(nearer), list)
            self.assertEqual(nearer, [deed for deed, behind in plain_nearer(one, other)], (one, other))
            self.assertTrue(all(type(deed) is tuple for deed in nearer))

    def test_all_deeds_of_middling_works(self):
        kinds = set()
        for seed in range(30):
            one = some_work(8, 3 + seed % 6, seed)
            other = some_work(8, 3 + seed // 6, seed + 100)
            kinds.add(frozenset(kind for kind, ends in threads(one, other)))
            apart = apart_by(one, other)
            wanted = [deed for behind, deed in plain_deeds(one).items() if apart_by(behind, other) == apart - 1]
            self.assertEqual(nearer_deeds(one, other), wanted)
        self.assertTrue(any({"bare", "tied"} <= met for met in kinds))

    def test_all_deeds_of_the_longest_threads(self):
        for one, other in LONGEST[2:7:2] + tuple(great_pairs()[::9]):
            apart = apart_by(one, other)
            wanted = [deed for deed in all_deeds(one) if apart_by(reclasped(one, deed), other) == apart - 1]
            self.assertEqual(nearer_deeds(one, other), wanted)

    def test_there_is_one_just_where_the_works_are_not_the_same(self):
        for one, other in small_pairs() + great_pairs():
            self.assertEqual(nearer_deeds(one, other) == [], one == other)


class FewestDeeds(RefusingCase):
    def test_ordinary_works(self):
        one = read_work("[0 1 2]")
        for text, deeds in (
            ("[0 1 2]", []), ("[0 -1 2]", [(1, 3)]), ("[0] [1] [2]", [(1, 1), (3, 3)]),
            ("[0 -1] (2)", [(1, 3), (4, 5)]), ("(0) (1) (2)", [(0, 1), (2, 3), (4, 5)]),
        ):
            self.assertEqual(fewest_deeds(one, read_work(text)), deeds, text)

    def test_edges(self):
        self.assertEqual(fewest_deeds((), ()), [])
        for work in (LOOSE, OWN_RINGS, plain_work(40), MIXED):
            self.assertEqual(fewest_deeds(work, work), [])
        self.assertEqual(fewest_deeds(LOOSE, OWN_RINGS), [(end, end + 1) for end in range(0, 80, 2)])
        self.assertEqual(fewest_deeds(OWN_RINGS, LOOSE), [(end, end) for end in range(0, 80, 2)])

    def test_small_works_are_led_by_the_least_nearer_deeds_found_by_trying(self):
        for one, other in small_pairs():
            wanted = []
            now = one
            while now != other:
                deed, now = plain_nearer(now, other)[0]
                wanted.append(deed)
            deeds = fewest_deeds(one, other)
            self.assertIs(type(deeds), list)
            self.assertEqual(deeds, wanted, (one, other))
            self.assertEqual(len(deeds), deeds_needed(other)[one])

    def test_great_works_are_led_to_one_another_soon(self):
        for one, other in great_pairs():
            deeds = self.assert_soon(fewest_deeds, one, other)
            self.assertEqual(len(deeds), apart_by(one, other))
            now = one
            for deed in deeds:
                self.assertEqual(deed, nearer_deeds(now, other)[0])
                now = plain_behind(now, *deed)
            self.assertEqual(now, other)
        self.assertEqual(max(apart_by(one, other) for one, other in great_pairs()), 40)


class Papers(RefusingCase):
    def test_an_ordinary_paper(self):
        one = read_work("[0 1 2]")
        other = read_work("[0 -1] (2)")
        paper = ((("odd", (0,)), ("odd", (5, 4, 3, 1, 2))), ((1, 3), (4, 5)))
        self.assertEqual(paper_for(one, other), paper)
        self.assertEqual(judged_paper(one, other, paper), 2)

    def test_edges(self):
        self.assertEqual(paper_for((), ()), ((), ()))
        self.assertEqual(judged_paper((), (), ((), ())), 0)
        self.assertEqual(paper_for((0, 1), (0, 1)), ((("odd", (0,)), ("odd", (1,))), ()))
        self.assertEqual(paper_for(OWN_RINGS, OWN_RINGS)[1], ())
        self.assertEqual(judged_paper(LOOSE, LOOSE, paper_for(LOOSE, LOOSE)), 0)

    def test_each_paper_is_judged_right(self):
        for one, other in small_pairs()[::3] + great_pairs():
            paper = paper_for(one, other)
            self.assertEqual([type(part) for part in paper], [tuple, tuple])
            self.assertIs(type(paper), tuple)
            self.assertEqual(paper, (tuple(threads(one, other)), tuple(fewest_deeds(one, other))))
            self.assertEqual(self.assert_soon(judged_paper, one, other, paper), apart_by(one, other))

    def test_other_deeds_are_as_right_where_they_lead_there(self):
        one = read_work("[0 1 2]")
        other = read_work("[0 -1] (2)")
        laid = tuple(threads(one, other))
        # The same deeds in another order, and told by another pair than their least one.
        for deeds in (((1, 3), (4, 5)), ((4, 5), (1, 3)), ((1, 5), (1, 3)), ((2, 4), (4, 5)), ((1, 3), (4, 5))):
            self.assertEqual(judged_paper(one, other, (laid, deeds)), 2, deeds)

    def assert_no_paper(self, one, other, *papers):
        for paper in papers:
            self.assert_refused(NoPaper, judged_paper, one, other, paper)

    def test_threads_spoiled_in_one_place_are_refused(self):
        for one, other in small_pairs()[::17] + great_pairs()[::12]:
            laid, deeds = paper_for(one, other)
            spoiled = [laid[::-1]] if len(laid) > 1 else []
            for place, (kind, ends) in enumerate(laid):
                before = laid[:place]
                behind = laid[place + 1:]
                spoiled += [before + behind, before + laid[place:place + 1] * 2 + behind]
                spoiled += [laid[place:place + 1] + laid] + ([behind + laid[:place + 1]] if behind else [])
                if len(ends) > 1:
                    # Told from its other end, from the next end on, without its last end, and with one too many.
                    spoiled += [before + ((kind, wrong),) + behind for wrong in (
                        ends[::-1], ends[1:] + ends[:1], ends[:-1], ends + ends[-1:], ends[1:], (),
                    )]
                spoiled += [before + ((wrong, ends),) + behind for wrong in ("ring", "odd", "bare", "tied", "")
                            if wrong != kind]
                spoiled += [before + ((kind, ends[:-1] + (wrong,)),) + behind for wrong in (-1, -FAR, len(one), FAR)]
            spoiled.append(laid + (("odd", (len(one),)),))
            spoiled.append(laid + (("ring", ()),))
            self.assert_no_paper(one, other, *[(wrong, deeds) for wrong in spoiled if wrong != laid])
            self.assertEqual(judged_paper(one, other, (laid, deeds)), len(deeds))

    def test_deeds_spoiled_in_one_place_are_refused(self):
        for one, other in small_pairs()[::17] + great_pairs()[::12]:
            laid, deeds = paper_for(one, other)
            pairs = [(0, 0), (0, 1)] if one else []
            works = [one]
            for deed in deeds:
                works.append(plain_behind(works[-1], *deed))
            spoiled = []
            for place in range(len(deeds) + 1):
                before = deeds[:place]
                behind = deeds[place:]
                # Left out, put in, told twice, not fitting: a deed done at once again never fits.
                spoiled += [before + (pair,) + behind for pair in pairs + [(FAR, FAR), (-1, 0), (0, len(one))]]
                if behind:
                    spoiled += [before + behind[1:], before + behind[:1] + behind]
                    spoiled += [before + (pair,) + behind[1:] for pair in wrong_pairs(len(one))]
                    # Told backward where that is another pair, and one that leads elsewhere.
                    p, q = behind[0]
                    spoiled += [before + ((q, p),) + behind[1:]] if p != q else []
                    spoiled += [before + (pair,) + behind[1:] for pair in all_deeds(works[place])[:12]
                                if not leads_there(plain_behind(works[place], *pair), behind[1:], other)]
            self.assert_no_paper(one, other, *[(laid, wrong) for wrong in spoiled])
            self.assertEqual(judged_paper(one, other, (laid, deeds)), len(deeds))

    def test_rows_that_lead_there_but_are_longer_are_refused(self):
        one = read_work("[0 1 2]")
        other = read_work("[0] [1] [2]")
        laid = tuple(threads(one, other))
        self.assertEqual(judged_paper(one, other, (laid, ((3, 3), (1, 1)))), 2)
        for deeds in (((1, 3), (1, 1), (2, 2)), ((1, 1), (0, 1), (0, 0), (3, 3)), ((1, 1), (1, 2), (1, 1), (3, 3))):
            now = one
            for deed in deeds:
                now = plain_behind(now, *deed)
            self.assertEqual(now, other)
            self.assert_no_paper(one, other, (laid, deeds))
        self.assert_no_paper(one, one, (tuple(threads(one, one)), ((1, 1), (1, 2))))

    def test_the_paper_of_other_works_is_refused(self):
        pairs = [(one, other) for one, other in small_pairs() if len(one) == 6][::43]
        for one, other in pairs:
            for first, second in pairs:
                if (first, second) != (one, other):
                    laid, deeds = paper_for(first, second)
                    if laid != tuple(threads(one, other)):
                        self.assert_no_paper(one, other, (laid, deeds))
        # The way back has other threads, or other deeds.
        one = read_work("[0 1 2]")
        self.assert_no_paper(one, read_work("[0 -1 2]"), paper_for(read_work("[0 -1 2]"), one))

    def test_right_threads_with_the_deeds_of_another_pair_are_refused(self):
        one = read_work("[0 1 2]")
        for text in ("[0 2 1]", "(0 1) [2]", "[0] [1] [2]", "[0 1 2]"):
            other = read_work(text)
            for wrong in ("[0 -1 2]", "[1 0 2]", "[0 -1] (2)", "(0) (1) (2)"):
                paper = (tuple(threads(one, other)), tuple(fewest_deeds(one, read_work(wrong))))
                self.assert_no_paper(one, other, paper)


def leads_there(work, deeds, other):
    """Whether the deeds all fit, one behind another, and lead to the other work: [2.1] and [2.2] word by word."""
    now = work
    for p, q in deeds:
        if p == q and now[p] == p or p != q and now[p] == q:
            return False
        now = plain_behind(now, p, q)
    return now == other


class UnlikeWorks(RefusingCase):
    def test_works_of_unlike_counts_are_refused(self):
        for one, other in UNLIKE:
            for call in (nearer_deeds, fewest_deeds, paper_for):
                self.assert_refused(Unlike, call, one, other)

    def test_unlike_is_told_ahead_of_no_paper(self):
        for one, other in UNLIKE:
            self.assertNotEqual(staves_in(one), staves_in(other))
            for paper in (((), ()), paper_for(one, one), paper_for(other, other), ((("odd", (FAR,)),), ((FAR, -1),))):
                self.assert_refused(Unlike, judged_paper, one, other, paper)

    def test_works_with_the_same_clasps_but_more_staves_are_unlike(self):
        self.assert_refused(Unlike, fewest_deeds, work_by(2, [(1, 2)]), work_by(3, [(1, 2)]))


if __name__ == "__main__":
    unittest.main()
