"""[0.1], [1.3], [0.3], [0.5] and the interface of claspwork.chains."""

import unittest

from claspwork.chains import rings_in, rows_in, work_from
from claspwork.errors import BadWork
from claspwork.works import loose_ends, plain_work, staves_in
from tests.helper import FAR, MIXED, RefusingCase, great_works, small_works, tellings, told_backward


class RowsAndRings(unittest.TestCase):
    def test_an_ordinary_work(self):
        self.assertEqual(rows_in(MIXED), [(0, 5)])
        self.assertEqual(rings_in(MIXED), [(2, 7), (8,)])

    def test_a_row_is_told_from_its_lesser_loose_end_on(self):
        # Stave 0 lies in the midst of the row, which ends with the heads 3 and 5.
        work = (2, 4, 0, 3, 1, 5)
        self.assertEqual(rows_in(work), [(3, 0, 4)])
        self.assertEqual(rings_in(work), [])
        self.assertEqual(rows_in((3, 1, 2, 0)), [(1, 3)])

    def test_a_ring_is_told_from_its_least_end_on(self):
        # From foot 0 one leaves by head 1, which is clasped to head 5.
        self.assertEqual(rings_in((2, 5, 0, 4, 3, 1)), [(0, 5, 3)])
        self.assertEqual(rings_in((3, 2, 1, 0)), [(0, 2)])
        self.assertEqual(rings_in((2, 3, 0, 1)), [(0, 3)])

    def test_several_rows_and_rings_are_ascending(self):
        # Rows [3] and [1 4], ring (0 -5) and ring (2).
        work = work_from([(6,), (2, 8)], [(4,), (0, 11)])
        self.assertEqual(rows_in(work), [(2, 8), (6,)])
        self.assertEqual(rings_in(work), [(0, 11), (4,)])

    def test_edges(self):
        self.assertEqual((rows_in(()), rings_in(())), ([], []))
        self.assertEqual((rows_in((0, 1)), rings_in((0, 1))), ([(0,)], []))
        self.assertEqual((rows_in((1, 0)), rings_in((1, 0))), ([], [(0,)]))
        loose = tuple(range(80))
        self.assertEqual(rows_in(loose), [(end,) for end in range(0, 80, 2)])
        self.assertEqual(rings_in(loose), [])
        own = tuple(end ^ 1 for end in range(80))
        self.assertEqual(rows_in(own), [])
        self.assertEqual(rings_in(own), [(end,) for end in range(0, 80, 2)])
        self.assertEqual(rows_in(plain_work(40)), [tuple(range(0, 80, 2))])
        self.assertEqual(rings_in(plain_work(40)), [])

    def check_walk(self, work, chain):
        self.assertIs(type(chain), tuple)
        for place in range(1, len(chain)):
            leaving = chain[place - 1] ^ 1
            self.assertNotEqual(work[leaving], leaving)
            self.assertEqual(work[leaving], chain[place])

    def test_every_work_falls_into_just_its_rows_and_rings(self):
        for work in small_works() + great_works():
            rows = rows_in(work)
            rings = rings_in(work)
            self.assertIs(type(rows), list)
            self.assertIs(type(rings), list)
            ended = []
            for row in rows:
                self.check_walk(work, row)
                self.assertLess(row[0], row[-1] ^ 1)
                ended.extend((row[0], row[-1] ^ 1))
            self.assertEqual(sorted(ended), loose_ends(work))
            for ring in rings:
                self.check_walk(work, ring)
                self.assertEqual(work[ring[-1] ^ 1], ring[0])
                self.assertEqual(ring[0], min(min(end, end ^ 1) for end in ring))
            staves = [end // 2 for chain in rows + rings for end in chain]
            self.assertEqual(sorted(staves), list(range(staves_in(work))))
            self.assertEqual(rows, sorted(rows))
            self.assertEqual(rings, sorted(rings))


class WorkFrom(RefusingCase):
    def assert_bad_work(self, rows, rings):
        self.assert_refused(BadWork, work_from, rows, rings)

    def test_ordinary_works(self):
        self.assertEqual(work_from([(0, 5)], [(2, 7), (8,)]), MIXED)
        self.assertEqual(work_from([[4, 1]], [[9], [6, 3]]), MIXED)
        self.assertEqual(work_from([(0, 2)], []), (0, 2, 1, 3))
        self.assertEqual(work_from([], [(0, 2)]), (3, 2, 1, 0))

    def test_edges(self):
        self.assertEqual(work_from([], []), ())
        self.assertEqual(work_from([(0,)], []), (0, 1))
        self.assertEqual(work_from([(1,)], []), (0, 1))
        self.assertEqual(work_from([], [(0,)]), (1, 0))
        self.assertEqual(work_from([], [(1,)]), (1, 0))
        self.assertEqual(work_from([(end,) for end in range(0, 80, 2)], []), tuple(range(80)))
        self.assertEqual(work_from([], [[end] for end in range(1, 80, 2)]), tuple(end ^ 1 for end in range(80)))
        self.assertEqual(work_from([list(range(0, 80, 2))], []), plain_work(40))

    def test_rows_and_rings_lead_back_to_their_work(self):
        for work in small_works() + great_works():
            made = work_from(rows_in(work), rings_in(work))
            self.assertIs(type(made), tuple)
            self.assertEqual(made, work)

    def test_lists_are_taken_as_tuples_are(self):
        for work in small_works() + great_works():
            rows = [list(row) for row in rows_in(work)]
            rings = [list(ring) for ring in rings_in(work)]
            self.assertEqual(work_from(rows, rings), work)
            self.assertEqual(work_from(rows, rings_in(work)), work)
            self.assertEqual(work_from(rows_in(work), rings), work)

    def test_the_same_work_however_rows_and_rings_are_told(self):
        for work in small_works() + great_works():
            rows = rows_in(work)
            rings = rings_in(work)
            self.assertEqual(work_from(rows[::-1], rings[::-1]), work)
            self.assertEqual(work_from([told_backward(row) for row in rows], rings), work)
            for place, ring in enumerate(rings):
                for telling in tellings(ring):
                    self.assertEqual(work_from(rows, rings[:place] + [telling] + rings[place + 1:]), work)

    def test_an_empty_row_or_ring_is_refused(self):
        for empty in ((), []):
            self.assert_bad_work([empty], [])
            self.assert_bad_work([], [empty])
            self.assert_bad_work([(0, 2), empty], [])
            self.assert_bad_work([(0, 2)], [empty])
            self.assert_bad_work([empty], [(0, 2)])

    def test_numbers_below_nought_are_refused(self):
        for wrong in (-1, -2, -3, -80, -FAR, 1 - 10 * FAR):
            self.assert_bad_work([(wrong,)], [])
            self.assert_bad_work([], [(wrong,)])
            self.assert_bad_work([(0, wrong)], [])
            self.assert_bad_work([(wrong, 2)], [])
            self.assert_bad_work([(0,)], [(2, wrong)])

    def test_a_stave_left_out_is_refused(self):
        for wrong in (2, 3, 4, 79, 80, 81, FAR, 10 * FAR - 1):
            self.assert_bad_work([(wrong,)], [])
            self.assert_bad_work([], [(wrong,)])
        self.assert_bad_work([(0, 4)], [])
        self.assert_bad_work([(0,)], [(5,)])
        self.assert_bad_work([(2, 4)], [(6, 8)])
        self.assert_bad_work([(0, 2, 4)], [(FAR,)])

    def test_a_stave_twice_is_refused(self):
        self.assert_bad_work([(0, 0)], [])
        self.assert_bad_work([(0, 1)], [])
        self.assert_bad_work([], [(0, 2, 1)])
        self.assert_bad_work([(0, 2), (2,)], [])
        self.assert_bad_work([(0, 2)], [(3,)])
        self.assert_bad_work([(0, 4)], [(4, 0)])
        self.assert_bad_work([], [(0, 2), (4, 1)])

    def test_more_than_forty_staves_are_refused(self):
        for staves in (41, 42, 100):
            ends = list(range(0, 2 * staves, 2))
            self.assert_bad_work([ends], [])
            self.assert_bad_work([], [ends])
            self.assert_bad_work([ends[:20]], [ends[20:]])
            self.assert_bad_work([[end] for end in ends], [])


if __name__ == "__main__":
    unittest.main()
