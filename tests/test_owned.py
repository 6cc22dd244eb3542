"""[0.2]: what is handed in is neither changed nor kept, and what is told is the asker's own."""

import copy
import unittest

from claspwork.chains import rings_in, rows_in, work_from
from claspwork.works import clasps_of, loose_ends, made_work, moved_work, plain_work, staves_in, work_by
from tests.helper import MIXED, refusal_of

HANDED = (
    (made_work, [list(MIXED)]),
    (work_by, [5, [[9, 8], [3, 7], [5, 1], [2, 6]]]),
    (moved_work, [MIXED, [0, 2, 4, 6, 8]]),
    (work_from, [[[0, 5]], [[2, 7], [8]]]),
)
REFUSED = (
    (made_work, [[1, 0, 3, 1]]),
    (work_by, [5, [[0, 1], [2, 3], [3, 4]]]),
    (moved_work, [MIXED, [0, 2, 4, 6, 7]]),
    (work_from, [[[0, 5], [2]], [[7], [4]]]),
)
ASKED = (
    (clasps_of, [(1, 5), (2, 6), (3, 7), (8, 9)]),
    (loose_ends, [0, 4]),
    (rows_in, [(0, 5)]),
    (rings_in, [(2, 7), (8,)]),
)


def spoil(value):
    """Empties a list, and the lists within it."""
    if isinstance(value, list):
        for inner in value:
            spoil(inner)
        value.clear()


class WhatIsHandedIn(unittest.TestCase):
    def test_it_is_not_changed(self):
        for call, handed in HANDED:
            given = copy.deepcopy(handed)
            self.assertEqual(call(*given), MIXED)
            self.assertEqual(given, handed)

    def test_it_is_not_changed_where_it_is_refused(self):
        for call, handed in REFUSED:
            given = copy.deepcopy(handed)
            self.assertIsNotNone(refusal_of(call, *given))
            self.assertEqual(given, handed)

    def test_it_is_not_kept(self):
        for call, handed in HANDED:
            given = copy.deepcopy(handed)
            told = call(*given)
            spoil(given)
            self.assertEqual(told, MIXED)
            self.assertEqual(call(*copy.deepcopy(handed)), MIXED)

    def test_a_refusal_changes_nothing_told_later(self):
        for call, handed in REFUSED:
            refusal_of(call, *copy.deepcopy(handed))
        for call, handed in HANDED:
            self.assertEqual(call(*copy.deepcopy(handed)), MIXED)


class WhatIsTold(unittest.TestCase):
    def test_changing_it_changes_nothing_told_later(self):
        for ask, told in ASKED:
            first = ask(MIXED)
            self.assertEqual(first, told)
            spoil(first)
            self.assertEqual(ask(MIXED), told)

    def test_nothing_asked_later_changes_it(self):
        first = [ask(MIXED) for ask, told in ASKED]
        for ask, told in ASKED:
            spoil(ask(MIXED))
            ask(plain_work(3))
        self.assertEqual(first, [told for ask, told in ASKED])

    def test_the_same_is_told_each_time(self):
        for staves in (0, 1, 5, 40):
            self.assertEqual(plain_work(staves), plain_work(staves))
            self.assertEqual(staves_in(plain_work(staves)), staves)


if __name__ == "__main__":
    unittest.main()
