"""[4.1], [4.4] and the interface of claspwork.numbered."""

import itertools
import unittest

from claspwork.counted import fewest_many
from claspwork.deeds import all_deeds, fits_work, reclasped, told_deed
from claspwork.errors import BadRow, NoSuch, TooMany, Unlike
from claspwork.fewest import fewest_deeds, nearer_deeds
from claspwork.journal import works_along
from claspwork.laid import apart_by
from claspwork.notes import read_work
from claspwork.numbered import number_of_row, row_numbered
from claspwork.works import plain_work
from tests.helper import (
    CROSSING_SHAPES, FAR, LOOSE, OWN_RINGS, PLAIN_SHAPES, RefusingCase, UNLIKE, all_works, has_crossing, plain_rows,
    row_pairs, shaped_works, wrong_pairs,
)

# Works that are just as far apart as is told, and works that are one farther.
WITHIN = [shaped_works(40, shape, 7) for shape in PLAIN_SHAPES + [shape for shape, count in CROSSING_SHAPES]]
BEYOND = [shaped_works(40, [(kind, 13)], 7) for kind in ("ring", "odd", "bare", "tied")]
BEYOND += [shaped_works(40, shape + [("odd", 1)], 7) for shape, count in CROSSING_SHAPES]
BEYOND += [(LOOSE, OWN_RINGS), (OWN_RINGS, LOOSE), (plain_work(40), OWN_RINGS)]


class RowsByNumber(RefusingCase):
    def test_ordinary_works(self):
        one = read_work("[0 1 2]")
        other = read_work("[0 -1] (2)")
        rows = [[(1, 3), (4, 5)], [(1, 5), (1, 3)], [(4, 5), (1, 3)]]
        self.assertEqual([row_numbered(one, other, number) for number in range(3)], rows)
        self.assertEqual([number_of_row(one, other, row) for row in rows], [0, 1, 2])
        # With a bare and a tied thread: the clasp is opened first or last, or is one end of it taken first.
        firsts = [(0, 0), (0, 2), (0, 3), (1, 2), (1, 3)]
        rows = [[first, (2, 3)] for first in firsts] + [[(2, 3), (0, 0)]]
        self.assertEqual([row_numbered((1, 0, 2, 3), (0, 1, 3, 2), number) for number in range(6)], rows)

    def test_edges(self):
        for work in ((), (0, 1), (1, 0), LOOSE, OWN_RINGS, plain_work(40)):
            self.assertEqual(row_numbered(work, work, 0), [])
            self.assertEqual(number_of_row(work, work, []), 0)
            self.assert_refused(NoSuch, row_numbered, work, work, 1)
            self.assert_refused(BadRow, number_of_row, work, work, [(0, 0)])
        self.assertEqual(row_numbered((0, 1), (1, 0), 0), [(0, 1)])
        self.assertEqual(row_numbered((1, 0), (0, 1), 0), [(0, 0)])

    def test_small_works_against_all_rows_found_by_trying(self):
        met = {True: 0, False: 0}
        for one, other in row_pairs():
            rows = plain_rows(one, other)
            met[has_crossing(one, other)] += len(rows)
            for number, row in list(enumerate(rows))[::1 + len(rows) // 50]:
                told = row_numbered(one, other, number)
                self.assertIs(type(told), list)
                self.assertEqual(told, row, (one, other, number))
                self.assertTrue(all(type(deed) is tuple for deed in told))
                self.assertEqual(number_of_row(one, other, row), number)
            for number in (-1, -FAR, len(rows), len(rows) + 1, FAR, 10 * FAR - 1):
                self.assert_refused(NoSuch, row_numbered, one, other, number)
        self.assertGreater(min(met.values()), 500)

    def check_row(self, one, other, row):
        self.assertEqual(len(row), apart_by(one, other))
        works = works_along(one, row)
        self.assertEqual(works[-1], other)
        for work, deed in zip(works, row):
            self.assertEqual(told_deed(work, deed), deed)

    def test_the_farthest_works_that_are_not_refused(self):
        for one, other in WITHIN:
            many = fewest_many(one, other)
            last = None
            for number in (0, 1, many // 2, many - 1):
                row = self.assert_soon(row_numbered, one, other, number)
                self.check_row(one, other, row)
                self.assertEqual(self.assert_soon(number_of_row, one, other, row), number)
                self.assertTrue(last is None or last < row)
                last = row
            self.assertEqual(row_numbered(one, other, 0), fewest_deeds(one, other))
            greatest = []
            now = one
            while now != other:
                greatest.append(nearer_deeds(now, other)[-1])
                now = reclasped(now, greatest[-1])
            self.assertEqual(number_of_row(one, other, greatest), many - 1)

    def test_rows_beside_one_another_are_numbered_so(self):
        one, other = shaped_works(40, CROSSING_SHAPES[0][0], 7)
        many = fewest_many(one, other)
        rows = [row_numbered(one, other, number) for number in range(many // 2, many // 2 + 40)]
        self.assertEqual(rows, sorted(rows))
        self.assertEqual(len({tuple(row) for row in rows}), 40)

    def test_numbers_that_no_row_has_are_refused(self):
        for one, other in WITHIN:
            many = fewest_many(one, other)
            for number in (-1, -2, -many, -many - 1, -FAR, many, many + 1, 2 * many, FAR, 10 * FAR - 1):
                self.assert_refused(NoSuch, row_numbered, one, other, number)


class NoFewestRows(RefusingCase):
    def test_all_short_rows_of_small_works(self):
        for staves in (1, 2):
            pairs = list(itertools.product(range(-1, 2 * staves + 1), repeat=2))
            tried = [[]] + [[pair] for pair in pairs] + [list(row) for row in itertools.product(pairs, repeat=2)]
            works = all_works(staves)
            for one, other in itertools.product(works[::2], works[::3]):
                rows = plain_rows(one, other)
                for row in tried:
                    if row in rows:
                        self.assertEqual(number_of_row(one, other, row), rows.index(row))
                    else:
                        self.assert_refused(BadRow, number_of_row, one, other, row)

    def test_rows_spoiled_in_one_place(self):
        for one, other in WITHIN[9::6] + row_pairs()[::20]:
            row = row_numbered(one, other, fewest_many(one, other) // 2)
            for place in range(len(row) + 1):
                for spoiled in self.spoiled_rows(one, other, row, place):
                    self.assert_refused(BadRow, number_of_row, one, other, spoiled)

    def spoiled_rows(self, one, other, row, place):
        before = row[:place]
        behind = row[place:]
        wrong = [before + [pair] + behind for pair in [(0, 0), (0, 1), (-1, FAR)]]
        if behind:
            work = works_along(one, before)[-1]
            wrong += [before, before + behind[1:], before + behind[:1] + behind]
            wrong += [before + [behind[0][::-1]] + behind[1:]] if behind[0][0] != behind[0][1] else []
            far = [deed for deed in all_deeds(work)[:40] if deed not in nearer_deeds(work, other)]
            wrong += [before + [pair] + behind[1:] for pair in far[:3] + wrong_pairs(len(one))[2::17]]
        return wrong

    def test_a_deed_by_another_pair_than_its_least_one_is_refused(self):
        one = read_work("[0 1 2]")
        other = read_work("[0 -1] (2)")
        self.assertEqual(reclasped(one, (2, 4)), reclasped(one, (1, 3)))
        self.assertEqual(number_of_row(one, other, [(1, 3), (4, 5)]), 0)
        self.assert_refused(BadRow, number_of_row, one, other, [(2, 4), (4, 5)])
        # An opening by the greater one of the clasp's two ends.
        self.assertEqual(number_of_row((1, 0), (0, 1), [(0, 0)]), 0)
        self.assertTrue(fits_work((1, 0), (1, 1)))
        self.assert_refused(BadRow, number_of_row, (1, 0), (0, 1), [(1, 1)])

    def test_longer_rows_that_lead_there_are_refused(self):
        one = read_work("[0 1 2]")
        for text, row in (
            ("[0] [1] [2]", [(1, 3), (1, 1), (2, 2)]), ("[0] [1] [2]", [(1, 1), (1, 2), (1, 1), (3, 3)]),
            ("[0 1 2]", [(1, 1), (1, 2)]), ("[0 -1 2]", [(1, 3), (1, 2), (1, 3)]),
        ):
            self.assertEqual(works_along(one, row)[-1], read_work(text))
            self.assert_refused(BadRow, number_of_row, one, read_work(text), row)

    def test_a_fewest_row_of_other_works_is_refused(self):
        one = read_work("[0 1 2]")
        for text in ("[0 2 1]", "(0 1) [2]", "[0] [1] [2]", "[0 1 2]"):
            for wrong in ("[0 -1 2]", "[1 0 2]", "[0 -1] (2)", "(0) (1) (2)"):
                row = fewest_deeds(one, read_work(wrong))
                self.assert_refused(BadRow, number_of_row, one, read_work(text), row)


class TooFarApart(RefusingCase):
    def test_none_within_the_bounds_and_too_many_beyond_them(self):
        for one, other in WITHIN:
            self.assertEqual(number_of_row(one, other, row_numbered(one, other, 0)), 0)
        for one, other in BEYOND:
            self.assert_refused(TooMany, row_numbered, one, other, 0)
            self.assert_refused(TooMany, number_of_row, one, other, fewest_deeds(one, other))

    def test_too_many_is_told_ahead_of_no_such_and_bad_row(self):
        for one, other in BEYOND:
            for number in (-1, -FAR, FAR):
                self.assert_refused(TooMany, row_numbered, one, other, number)
            for row in ([], [(FAR, FAR)], [(-1, 0)]):
                self.assert_refused(TooMany, number_of_row, one, other, row)

    def test_unlike_is_told_first(self):
        for one, other in UNLIKE:
            for number in (0, -1, FAR):
                self.assert_refused(Unlike, row_numbered, one, other, number)
            for row in ([], [(0, 0)], [(FAR, -FAR)]):
                self.assert_refused(Unlike, number_of_row, one, other, row)


if __name__ == "__main__":
    unittest.main()
