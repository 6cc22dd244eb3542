"""[0.2]: what is handed in is neither changed nor kept, and what is told is the asker's own."""

import copy
import unittest

from claspwork.chains import rings_in, rows_in, work_from
from claspwork.counted import fewest_many, on_way, works_on_way
from claspwork.deeds import all_deeds, deed_back, deed_kind, deed_to, fits_work, reclasped, told_deed
from claspwork.fewest import fewest_deeds, judged_paper, nearer_deeds, paper_for
from claspwork.journal import Journal, clasp_by_clasp, deeds_text, read_deeds, works_along
from claspwork.kins import framed, gap_kins, kin_spans, open_gaps, tie_gaps, tie_rings, ties_crossed
from claspwork.knots import knot_cost, knot_ends, knot_legs, knots_in, turn_score
from claspwork.laid import apart_by, thread_score, threads
from claspwork.notes import read_work, work_text
from claspwork.numbered import number_of_row, row_numbered
from claspwork.turnrow import fewest_turns, good_turns, paper_good, paper_score, turn_paper, turns_between
from claspwork.turns import made_row, plain_row, row_seen, turn_about, turns_all, walk_turns
from claspwork.works import clasps_of, loose_ends, made_work, moved_work, plain_work, staves_in, work_by
from tests.helper import MIXED, refusal_of

CLOSED = (4, 5, 6, 7, 0, 1, 2, 3, 9, 8)
CUT = (4, 1, 6, 7, 0, 5, 2, 3, 9, 8)
# Two works with a bare and a tied thread, and their paper.
TIED = (1, 0, 2, 3)
BARE = (0, 1, 3, 2)
PAPER = ((("tied", (0, 1)), ("bare", (2, 3))), ((0, 0), (2, 3)))
# A row with a knot within a knot, and its paper.
KNOTTED = (2, 4, 3, 5, 1)
TURN_PAPER = (6, ((0, 1, 5), (2, 3, 4)), ((0, 6), (1, 4)), (2, 2))

# A call, what is handed in, and what is told.
HANDED = (
    (made_work, [list(MIXED)], MIXED),
    (work_by, [5, [[9, 8], [3, 7], [5, 1], [2, 6]]], MIXED),
    (moved_work, [MIXED, [0, 2, 4, 6, 8]], MIXED),
    (work_from, [[[0, 5]], [[2, 7], [8]]], MIXED),
    (works_along, [MIXED, [(0, 4), (5, 5)]], [MIXED, CLOSED, CUT]),
    (deeds_text, [[(0, 4), (5, 5)]], "0-4 5"),
    (number_of_row, [TIED, BARE, [(2, 3), (0, 0)]], 5),
    (made_row, [[3, -1, 2]], (3, -1, 2)),
    (walk_turns, [(3, -1, 2), [(0, 1), (1, 2)]], [(1, -3, 2), (1, -2, 3)]),
)
REFUSED = (
    (made_work, [[1, 0, 3, 1]]),
    (work_by, [5, [[0, 1], [2, 3], [3, 4]]]),
    (moved_work, [MIXED, [0, 2, 4, 6, 7]]),
    (work_from, [[[0, 5], [2]], [[7], [4]]]),
    (works_along, [MIXED, [(0, 4), (5, 5), (0, 4)]]),
    (number_of_row, [TIED, BARE, [(2, 3), (1, 1)]]),
    (row_numbered, [TIED, BARE, 6]),
    (judged_paper, [TIED, BARE, (PAPER[0], PAPER[1][::-1] + ((0, 0),))]),
    (made_row, [[3, -1, 1]]),
    (walk_turns, [(3, -1, 2), [(0, 1), (1, 3)]]),
    (turns_between, [(3, -1, 2), (1, -2)]),
)
# A call, what it is asked, and what is told: a list each time.
ASKED = (
    (clasps_of, [MIXED], [(1, 5), (2, 6), (3, 7), (8, 9)]),
    (loose_ends, [MIXED], [0, 4]),
    (rows_in, [MIXED], [(0, 5)]),
    (rings_in, [MIXED], [(2, 7), (8,)]),
    (all_deeds, [(3, 2, 1, 0)], [(0, 0), (0, 1), (0, 2), (1, 1)]),
    (works_along, [MIXED, [(0, 4), (5, 5)]], [MIXED, CLOSED, CUT]),
    (clasp_by_clasp, [CUT, MIXED], [(1, 5), (0, 0)]),
    (read_deeds, ["0-4 5"], [(0, 4), (5, 5)]),
    (threads, [(0, 2, 1, 3), (1, 0, 2, 3)], [("odd", (0, 1, 2)), ("odd", (3,))]),
    (nearer_deeds, [TIED, BARE], [(0, 0), (0, 2), (0, 3), (1, 2), (1, 3), (2, 3)]),
    (fewest_deeds, [TIED, BARE], [(0, 0), (2, 3)]),
    (works_on_way, [CLOSED, CUT], [CUT, CLOSED]),
    (row_numbered, [TIED, BARE, 5], [(2, 3), (0, 0)]),
    (walk_turns, [(3, -1, 2), [(0, 1), (1, 2)]], [(1, -3, 2), (1, -2, 3)]),
    (turns_all, [2], [(0, 0), (0, 1), (1, 1)]),
    (open_gaps, [(-1, 2)], [0, 1]),
    (tie_gaps, [(-1, 2)], [(0, 1), (0, 1), (2, 2)]),
    (ties_crossed, [(-1, 2)], [0, 1]),
    (tie_rings, [(-1, 2)], [(0, 1), (2,)]),
    (kin_spans, [(-1, 2)], [(0, 2), (2, 3)]),
    (gap_kins, [(-1, 2)], [(0, 2), (0, 2), (2, 3)]),
    (knots_in, [KNOTTED], [(0, 6), (1, 4)]),
    (knot_ends, [KNOTTED], [(0, 6), (1, 4)]),
    (knot_legs, [KNOTTED], [2, 2]),
    (good_turns, [(3, -1, 2)], [(0, 1), (2, 2)]),
    (fewest_turns, [(3, -1, 2)], [(0, 1), (1, 2), (1, 1)]),
    (turns_between, [(3, -1, 2), (3, 1, 2)], [(1, 1)]),
)
# Calls that tell a text, a number or a tuple, which cannot be changed.
TOLD = (
    (work_text, [MIXED], "[0 -2] (1 -3) (4)"),
    (read_work, ["[0 -2] (1 -3) (4)"], MIXED),
    (fits_work, [MIXED, (0, 4)], True),
    (reclasped, [MIXED, (0, 4)], CLOSED),
    (told_deed, [MIXED, (5, 5)], (1, 1)),
    (deed_to, [MIXED, CLOSED], (0, 4)),
    (deed_back, [MIXED, (0, 4)], (0, 0)),
    (deed_kind, [MIXED, (0, 4)], "closed"),
    (thread_score, [MIXED, CLOSED], 8),
    (apart_by, [MIXED, CLOSED], 1),
    (paper_for, [TIED, BARE], PAPER),
    (judged_paper, [TIED, BARE, PAPER], 2),
    (fewest_many, [TIED, BARE], 6),
    (on_way, [TIED, (0, 1, 2, 3), BARE], True),
    (plain_row, [3], (1, 2, 3)),
    (turn_about, [(3, -1, 2), 0, 1], (1, -3, 2)),
    (row_seen, [(1, 2, 3), (3, -1, 2)], (-2, 3, 1)),
    (framed, [(-1, 2)], (0, -1, 2, 3)),
    (knot_cost, [KNOTTED], 2),
    (turn_score, [KNOTTED], 6),
    (turn_paper, [KNOTTED], TURN_PAPER),
    (paper_score, [TURN_PAPER], 6),
    (paper_good, [KNOTTED, TURN_PAPER], True),
)


def spoil(value):
    """Empties a list, and the lists within it."""
    if isinstance(value, list):
        for inner in value:
            spoil(inner)
        value.clear()


class WhatIsHandedIn(unittest.TestCase):
    def test_it_is_not_changed(self):
        for call, handed, wanted in HANDED + ASKED + TOLD:
            given = copy.deepcopy(handed)
            self.assertEqual(call(*given), wanted)
            self.assertEqual(given, handed)

    def test_it_is_not_changed_where_it_is_refused(self):
        for call, handed in REFUSED:
            given = copy.deepcopy(handed)
            self.assertIsNotNone(refusal_of(call, *given))
            self.assertEqual(given, handed)

    def test_it_is_not_kept(self):
        for call, handed, wanted in HANDED:
            given = copy.deepcopy(handed)
            told = call(*given)
            spoil(given)
            self.assertEqual(told, wanted)
            self.assertEqual(call(*copy.deepcopy(handed)), wanted)

    def test_a_refusal_changes_nothing_told_later(self):
        for call, handed in REFUSED:
            refusal_of(call, *copy.deepcopy(handed))
        for call, handed, wanted in HANDED:
            self.assertEqual(call(*copy.deepcopy(handed)), wanted)


class WhatIsTold(unittest.TestCase):
    def test_changing_it_changes_nothing_told_later(self):
        for ask, asked, told in ASKED:
            first = ask(*asked)
            self.assertEqual(first, told)
            spoil(first)
            self.assertEqual(ask(*asked), told)

    def test_nothing_asked_later_changes_it(self):
        first = [ask(*asked) for ask, asked, told in ASKED]
        for ask, asked, told in ASKED + TOLD:
            spoil(ask(*asked))
        for ask in (clasps_of, loose_ends, rows_in, rings_in, all_deeds, work_text):
            ask(plain_work(3))
        self.assertEqual(first, [told for ask, asked, told in ASKED])

    def test_what_journals_do_changes_nothing_told_elsewhere(self):
        first = [ask(*asked) for ask, asked, told in ASKED]
        journal = Journal(MIXED)
        journal.do((0, 4))
        journal.do((5, 5))
        spoil(journal.deeds())
        spoil(journal.works())
        journal.back()
        self.assertEqual(journal.works(), [MIXED, CLOSED])
        self.assertEqual(first, [told for ask, asked, told in ASKED])

    def test_the_same_is_told_each_time(self):
        for staves in (0, 1, 5, 40):
            self.assertEqual(plain_work(staves), plain_work(staves))
            self.assertEqual(staves_in(plain_work(staves)), staves)


if __name__ == "__main__":
    unittest.main()
