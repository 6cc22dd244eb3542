"""[2.1] to [2.4] and the interface of claspwork.deeds."""

import unittest

from claspwork.chains import rings_in, rows_in
from claspwork.deeds import all_deeds, deed_back, deed_kind, deed_to, fits_work, reclasped, told_deed
from claspwork.errors import BadDeed, Unlike
from claspwork.notes import read_work
from claspwork.works import made_work, plain_work
from tests.helper import (
    FAR, LOOSE, MIXED, OWN_RINGS, RefusingCase, all_pairs, all_works, great_works, plain_behind, plain_deeds,
    plain_fit, small_works, wrong_pairs,
)

# How many rows and rings more there are behind a deed of each kind.
CHANGES = {
    "cut": (1, 0), "opened": (1, -1), "joined": (-1, 0), "closed": (-1, 1),
    "turned": (0, 0), "parted": (0, 1), "crossed": (0, 0), "taken": (0, -1),
}
# A work, a deed, its kind, and the work behind.
KINDS = (
    ("[0 1 2]", (1, 1), "cut", "[0] [1 2]"),
    ("[0 1 2]", (4, 4), "cut", "[0 1] [2]"),
    ("(0 1 2)", (1, 1), "opened", "[1 2 0]"),
    ("(0)", (0, 0), "opened", "[0]"),
    ("(0)", (1, 1), "opened", "[0]"),
    ("[0] [1]", (1, 2), "joined", "[0 1]"),
    ("[0] [1]", (0, 2), "joined", "[-0 1]"),
    ("[0 1]", (0, 3), "closed", "(0 1)"),
    ("[0]", (0, 1), "closed", "(0)"),
    ("[0 1 2]", (1, 3), "turned", "[0 -1 2]"),
    ("[0 1 2]", (0, 2), "turned", "[-0 1 2]"),
    ("(0 1 2)", (1, 3), "turned", "(0 -1 2)"),
    ("[0 1 2]", (1, 4), "parted", "[0 2] (1)"),
    ("[0 1 2]", (0, 1), "parted", "(0) [1 2]"),
    ("(0 1 2 3)", (1, 4), "parted", "(0 2 3) (1)"),
    ("(0 1)", (0, 1), "parted", "(0) (1)"),
    ("[0 1] [2 3]", (1, 6), "crossed", "[0 3] [2 1]"),
    ("[0 1] [2 3]", (1, 5), "crossed", "[0 -2] [-1 3]"),
    ("[0 1] [2]", (1, 4), "crossed", "[0 2] [1]"),
    ("[0 1] (2)", (1, 4), "taken", "[0 2 1]"),
    ("[0] (1)", (1, 2), "taken", "[0 1]"),
    ("(0 1) (2)", (1, 4), "taken", "(0 2 1)"),
    ("(0) (1)", (0, 2), "taken", "(0 -1)"),
)


def plain_parts(work):
    """For each end the set of the ends of its row or ring."""
    parts = {}
    for end in range(len(work)):
        reached = {end}
        fresh = [end]
        while fresh:
            at = fresh.pop()
            for onward in (at ^ 1, work[at]):
                if onward not in reached:
                    reached.add(onward)
                    fresh.append(onward)
        parts[end] = frozenset(reached)
    return parts


def plain_kind(work, p, q):
    """[2.4] word by word."""
    parts = plain_parts(work)
    behind = plain_parts(plain_behind(work, p, q))
    rows = [part for part in (parts[p], parts[q]) if any(work[end] == end for end in part)]
    if p == q:
        return "cut" if rows else "opened"
    if work[p] == p and work[q] == q:
        return "closed" if parts[p] == parts[q] else "joined"
    if parts[p] == parts[q]:
        return "turned" if len({behind[end] for end in parts[p]}) == 1 else "parted"
    return "crossed" if len(rows) == 2 else "taken"


def tried_works():
    return [work for work in small_works() if len(work) <= 6] + all_works(4)[::7]


class FitsWork(unittest.TestCase):
    def test_ordinary_works(self):
        # Ends 0 and 3 are loose, 1 and 2 are clasped.
        work = (0, 2, 1, 3)
        fitting = [(0, 1), (0, 2), (0, 3), (1, 1), (1, 3), (2, 2), (2, 3)]
        for pair in all_pairs(4):
            self.assertIs(fits_work(work, pair), pair in fitting, pair)

    def test_all_pairs_of_small_works(self):
        for work in tried_works():
            for pair in all_pairs(len(work)):
                self.assertIs(fits_work(work, pair), plain_fit(work, *pair), (work, pair))

    def test_edges(self):
        for pair in all_pairs(0) + [(0, FAR), (-FAR, 0)]:
            self.assertIs(fits_work((), pair), False)
        for end in range(80):
            self.assertIs(fits_work(LOOSE, (end, end)), False)
            self.assertIs(fits_work(OWN_RINGS, (end, end)), True)
            self.assertIs(fits_work(OWN_RINGS, (min(end, end ^ 1), max(end, end ^ 1))), False)
        self.assertIs(fits_work(LOOSE, (78, 79)), True)
        self.assertIs(fits_work(LOOSE, (79, 80)), False)

    def test_numbers_that_are_no_ends_do_not_fit(self):
        for work in ((1, 0), MIXED, LOOSE, OWN_RINGS):
            for pair in wrong_pairs(len(work)):
                self.assertIs(fits_work(work, pair), False, pair)


class Reclasped(RefusingCase):
    def test_ordinary_works(self):
        self.assertEqual(reclasped((0, 2, 1, 3), (2, 2)), (0, 1, 2, 3))
        self.assertEqual(reclasped((0, 2, 1, 3), (0, 3)), (3, 2, 1, 0))
        self.assertEqual(reclasped((0, 2, 1, 3), (0, 2)), (2, 1, 0, 3))
        self.assertEqual(reclasped((3, 2, 1, 0), (0, 1)), (1, 0, 3, 2))

    def test_all_pairs_of_small_works(self):
        for work in tried_works():
            for pair in all_pairs(len(work)):
                if plain_fit(work, *pair):
                    behind = reclasped(work, pair)
                    self.assertIs(type(behind), tuple)
                    self.assertEqual(behind, plain_behind(work, *pair), (work, pair))
                    self.assertNotEqual(behind, work)
                    self.assertEqual(made_work(behind), behind)
                else:
                    self.assert_refused(BadDeed, reclasped, work, pair)

    def test_great_works(self):
        for work in great_works():
            for pair in [(p, q) for p in range(0, 80, 7) for q in range(p, 80, 5)]:
                if plain_fit(work, *pair):
                    self.assertEqual(reclasped(work, pair), plain_behind(work, *pair))
                else:
                    self.assert_refused(BadDeed, reclasped, work, pair)


class Refusals(RefusingCase):
    def test_what_does_not_fit_is_refused(self):
        for call in (reclasped, told_deed, deed_back, deed_kind):
            for work in ((1, 0), MIXED, LOOSE, OWN_RINGS):
                for pair in wrong_pairs(len(work)):
                    self.assert_refused(BadDeed, call, work, pair)
            for pair in ((0, 0), (0, 1), (-1, -1), (FAR, FAR)):
                self.assert_refused(BadDeed, call, (), pair)
            # A loose end, a clasp that is there, and ends the greater of which is first.
            for pair in ((0, 0), (4, 4), (1, 5), (8, 9), (5, 1), (3, 2), (9, 8), (4, 0)):
                self.assert_refused(BadDeed, call, MIXED, pair)

    def test_just_what_does_not_fit_is_refused(self):
        for work in tried_works():
            for pair in all_pairs(len(work)):
                if not plain_fit(work, *pair):
                    for call in (told_deed, deed_back, deed_kind):
                        self.assert_refused(BadDeed, call, work, pair)


class ToldDeed(unittest.TestCase):
    def test_ordinary_deeds(self):
        # A clasp is opened at either of its ends.
        self.assertEqual(told_deed(MIXED, (5, 5)), (1, 1))
        self.assertEqual(told_deed(MIXED, (1, 1)), (1, 1))
        # Of two clasps either the two ends asked for or the two others come together.
        self.assertEqual(told_deed(MIXED, (6, 9)), (2, 8))
        self.assertEqual(told_deed(MIXED, (7, 9)), (3, 8))
        self.assertEqual(told_deed(MIXED, (3, 5)), (1, 7))
        self.assertEqual(told_deed(MIXED, (2, 8)), (2, 8))
        # Where an end is loose, one pair alone does it.
        self.assertEqual(told_deed(MIXED, (4, 5)), (4, 5))
        self.assertEqual(told_deed(MIXED, (0, 9)), (0, 9))
        self.assertEqual(told_deed(MIXED, (0, 4)), (0, 4))

    def test_all_pairs_of_small_works(self):
        for work in tried_works():
            least = plain_deeds(work)
            for pair in all_pairs(len(work)):
                if plain_fit(work, *pair):
                    told = told_deed(work, pair)
                    self.assertIs(type(told), tuple)
                    self.assertEqual(told, least[plain_behind(work, *pair)], (work, pair))


class AllDeeds(unittest.TestCase):
    def test_edges(self):
        self.assertEqual(all_deeds(()), [])
        self.assertEqual(all_deeds((0, 1)), [(0, 1)])
        self.assertEqual(all_deeds((1, 0)), [(0, 0)])
        self.assertEqual(all_deeds((0, 2, 1, 3)), [(0, 1), (0, 2), (0, 3), (1, 1), (1, 3), (2, 3)])
        self.assertEqual(all_deeds((3, 2, 1, 0)), [(0, 0), (0, 1), (0, 2), (1, 1)])
        self.assertEqual(all_deeds(LOOSE), [(p, q) for p in range(80) for q in range(p + 1, 80)])
        # Each ring is opened, and each two rings come together in two ways.
        self.assertEqual(len(all_deeds(OWN_RINGS)), 40 + 2 * (40 * 39 // 2))

    def test_all_small_works(self):
        for work in small_works():
            deeds = all_deeds(work)
            self.assertIs(type(deeds), list)
            self.assertEqual(deeds, list(plain_deeds(work).values()))
            self.assertEqual(deeds, sorted(deeds))

    def test_great_works(self):
        for work in great_works()[::7]:
            self.assertEqual(all_deeds(work), list(plain_deeds(work).values()))


class DeedTo(RefusingCase):
    def test_ordinary_works(self):
        self.assertEqual(deed_to(read_work("[0 1 2]"), read_work("[0 -1 2]")), (1, 3))
        self.assertEqual(deed_to(read_work("[0 1 2]"), read_work("[0 1] [2]")), (3, 3))
        self.assertEqual(deed_to(read_work("[0 1] [2]"), read_work("[0 1 2]")), (3, 4))
        self.assertIsNone(deed_to(read_work("[0 1 2]"), read_work("[0] [1] [2]")))
        self.assertEqual(deed_to(read_work("[0 1 2]"), read_work("[-1 -0 2]")), (0, 4))
        self.assertIsNone(deed_to(read_work("[0 1 2]"), read_work("[1 0 2]")))
        self.assertIsNone(deed_to(LOOSE, OWN_RINGS))

    def test_no_deed_leads_from_a_work_to_itself(self):
        for work in small_works() + great_works():
            self.assertIsNone(deed_to(work, work))

    def test_all_pairs_of_small_works(self):
        for staves in range(4):
            works = all_works(staves)
            for work in works:
                least = plain_deeds(work)
                for other in works:
                    self.assertEqual(deed_to(work, other), least.get(other), (work, other))

    def test_each_deed_is_found(self):
        for work in all_works(4)[::5] + great_works()[::9]:
            for behind, deed in plain_deeds(work).items():
                self.assertEqual(deed_to(work, behind), deed)

    def test_works_of_unlike_counts_are_refused(self):
        for one, other in (((), (0, 1)), ((0, 1), ()), (MIXED, plain_work(4)), (plain_work(39), LOOSE)):
            self.assert_refused(Unlike, deed_to, one, other)
            self.assert_refused(Unlike, deed_to, other, one)


class DeedBack(unittest.TestCase):
    def test_ordinary_deeds(self):
        self.assertEqual(deed_back(MIXED, (5, 5)), (1, 5))
        self.assertEqual(deed_back(MIXED, (0, 4)), (0, 0))
        self.assertEqual(deed_back(MIXED, (4, 5)), (1, 5))
        self.assertEqual(deed_back(MIXED, (2, 8)), (2, 6))
        self.assertEqual(deed_back((1, 0), (1, 1)), (0, 1))
        self.assertEqual(deed_back((0, 1), (0, 1)), (0, 0))

    def test_all_pairs_of_small_works(self):
        for work in tried_works():
            for pair in all_pairs(len(work)):
                if plain_fit(work, *pair):
                    behind = plain_behind(work, *pair)
                    self.assertEqual(deed_back(work, pair), plain_deeds(behind)[work], (work, pair))

    def test_great_works(self):
        for work in great_works():
            for pair in [(p, q) for p in range(0, 80, 7) for q in range(p, 80, 5)]:
                if plain_fit(work, *pair):
                    back = deed_back(work, pair)
                    behind = reclasped(work, pair)
                    self.assertEqual(reclasped(behind, back), work)
                    self.assertEqual(told_deed(behind, back), back)


class DeedKind(unittest.TestCase):
    def test_each_kind_for_rows_and_for_rings(self):
        self.assertEqual({kind for work, deed, kind, behind in KINDS}, set(CHANGES))
        for text, deed, kind, behind in KINDS:
            self.assertEqual(deed_kind(read_work(text), deed), kind, (text, deed))
            self.assertEqual(reclasped(read_work(text), deed), read_work(behind), (text, deed))

    def test_all_pairs_of_small_works(self):
        for work in tried_works():
            for pair in all_pairs(len(work)):
                if plain_fit(work, *pair):
                    kind = deed_kind(work, pair)
                    self.assertEqual(kind, plain_kind(work, *pair), (work, pair))
                    self.assertEqual(deed_kind(work, told_deed(work, pair)), kind)
                    behind = reclasped(work, pair)
                    more = (len(rows_in(behind)) - len(rows_in(work)), len(rings_in(behind)) - len(rings_in(work)))
                    self.assertEqual(more, CHANGES[kind], (work, pair))

    def test_great_works(self):
        for work in great_works()[::3]:
            for pair in [(p, q) for p in range(0, 80, 13) for q in range(p, 80, 9)]:
                if plain_fit(work, *pair):
                    self.assertEqual(deed_kind(work, pair), plain_kind(work, *pair), pair)


if __name__ == "__main__":
    unittest.main()
