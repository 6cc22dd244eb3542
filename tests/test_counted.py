"""[4.1] to [4.4] and the interface of claspwork.counted."""

import itertools
import math
import unittest

from claspwork.counted import fewest_many, on_way, works_on_way
from claspwork.errors import TooMany, Unlike
from claspwork.fewest import nearer_deeds
from claspwork.journal import works_along
from claspwork.laid import apart_by, threads
from claspwork.notes import read_work
from claspwork.works import plain_work
from tests.helper import (
    CROSSING_SHAPES, LOOSE, OWN_RINGS, PLAIN_SHAPES, RefusingCase, UNLIKE, all_works, deeds_needed, has_crossing,
    kept_deeds, plain_behind, plain_rows, row_pairs, shaped_works, some_work,
)


def told_count(shape):
    """[4.2] word by word, for threads that lack so many deeds."""
    lacks = [lack for kind, lack in shape]
    count = math.factorial(sum(lacks))
    for lack in lacks:
        count = count // math.factorial(lack) * ((lack + 1) ** (lack - 1) if lack > 0 else 1)
    return count


def tried_count(one, other, counts):
    """The sum over all deeds behind which the works are one less apart, each work counted once."""
    if one == other:
        return 1
    if one not in counts:
        apart = apart_by(one, other)
        nearer = [behind for behind in kept_deeds(one) if apart_by(behind, other) == apart - 1]
        counts[one] = sum(tried_count(behind, other, counts) for behind in nearer)
    return counts[one]


class FewestMany(RefusingCase):
    def test_ordinary_works(self):
        one = read_work("[0 1 2]")
        for text, count in (
            ("[0 1 2]", 1), ("[0 -1 2]", 1), ("[0] [1] [2]", 2), ("[0 -1] (2)", 3), ("(0) (1) (2)", 16),
            ("[1 0 2]", 3),
        ):
            self.assertEqual(fewest_many(one, read_work(text)), count, text)

    def test_edges(self):
        self.assertEqual(fewest_many((), ()), 1)
        for work in (LOOSE, OWN_RINGS, plain_work(40), (0, 1), (1, 0)):
            self.assertEqual(fewest_many(work, work), 1)
        self.assertEqual(fewest_many((0, 1), (1, 0)), 1)
        self.assertEqual(fewest_many((1, 0), (0, 1)), 1)
        # A bare and a tied thread: two shuffles, and two ways more through each of four works between.
        self.assertEqual(fewest_many((1, 0, 2, 3), (0, 1, 3, 2)), 6)

    def test_small_works_against_all_rows_found_by_trying(self):
        met = {True: 0, False: 0}
        for one, other in row_pairs():
            self.assertEqual(fewest_many(one, other), len(plain_rows(one, other)), (one, other))
            met[has_crossing(one, other)] += 1
        self.assertGreater(min(met.values()), 50)

    def test_shapes_without_crossing_against_the_words_of_the_point(self):
        for seed, shape in enumerate(PLAIN_SHAPES):
            for one, other in (shaped_works(40, shape), shaped_works(40, shape, seed)):
                self.assertEqual(self.assert_soon(fewest_many, one, other), told_count(shape), shape)

    def test_shapes_without_crossing_against_the_sum_over_nearer_deeds(self):
        for shape in (
            [("ring", 4)], [("odd", 4)], [("bare", 4)], [("tied", 4)], [("ring", 2), ("odd", 1), ("bare", 1)],
            [("ring", 1), ("odd", 2), ("tied", 1)], [("tied", 2), ("tied", 2)], [("bare", 2), ("bare", 2)],
        ):
            one, other = shaped_works(6, shape, 5)
            self.assertEqual(fewest_many(one, other), tried_count(one, other, {}), shape)
            self.assertEqual(fewest_many(one, other), told_count(shape), shape)

    def test_shapes_with_crossing_against_the_sum_over_nearer_deeds(self):
        for shape in ([("bare", 1), ("tied", 3)], [("bare", 2), ("tied", 2)], [("bare", 1), ("tied", 1), ("odd", 2)],
                      [("bare", 1), ("bare", 1), ("tied", 2)], [("ring", 1), ("bare", 2), ("tied", 1)]):
            one, other = shaped_works(5, shape, 6)
            self.assertEqual(fewest_many(one, other), tried_count(one, other, {}), shape)
            self.assertGreater(fewest_many(one, other), told_count(shape))

    def test_shapes_with_crossing_six_apart(self):
        for seed, (shape, count) in enumerate(CROSSING_SHAPES):
            for one, other in (shaped_works(40, shape), shaped_works(40, shape, seed)):
                self.assertEqual(self.assert_soon(fewest_many, one, other), count, shape)
                # The way back has as many, as each deed leads back.
                self.assertEqual(self.assert_soon(fewest_many, other, one), count, shape)

    def test_the_threads_lack_as_many_deeds_as_the_works_are_apart(self):
        for shape in PLAIN_SHAPES + [shape for shape, count in CROSSING_SHAPES]:
            one, other = shaped_works(40, shape, 3)
            self.assertEqual(apart_by(one, other), sum(lack for kind, lack in shape))


class OnWay(RefusingCase):
    def test_ordinary_works(self):
        one = read_work("[0 1 2]")
        other = read_work("[0] [1] [2]")
        for text, on in (
            ("[0 1 2]", True), ("[0] [1] [2]", True), ("[0] [1 2]", True), ("[0 1] [2]", True), ("[0 -1 2]", False),
            ("(0 1 2)", False), ("(0) [1] [2]", False),
        ):
            self.assertIs(on_way(one, read_work(text), other), on, text)

    def test_edges(self):
        self.assertIs(on_way((), (), ()), True)
        self.assertIs(on_way((0, 1), (0, 1), (0, 1)), True)
        self.assertIs(on_way((0, 1), (1, 0), (0, 1)), False)
        self.assertIs(on_way((0, 1), (1, 0), (1, 0)), True)

    def test_it_is_told_however_far_the_works_are_apart(self):
        half = tuple(end ^ 1 if end < 40 else end for end in range(80))
        self.assertIs(on_way(LOOSE, half, OWN_RINGS), True)
        self.assertIs(on_way(OWN_RINGS, half, LOOSE), True)
        self.assertIs(on_way(LOOSE, plain_work(40), OWN_RINGS), False)
        self.assertIs(on_way(LOOSE, OWN_RINGS, LOOSE), False)
        for seed in range(10):
            works = [some_work(40, clasps, seed + clasps) for clasps in (40, 25, 38)]
            first, middle, last = works
            on = apart_by(first, middle) + apart_by(middle, last) == apart_by(first, last)
            self.assertIs(self.assert_soon(on_way, first, middle, last), on)
            self.assertIs(on_way(first, first, last), True)
            self.assertIs(on_way(first, last, last), True)
            nearer = plain_behind(first, *nearer_deeds(first, last)[-1])
            self.assertIs(on_way(first, nearer, last), True)
            self.assertIs(on_way(nearer, first, last), False)

    def test_works_of_unlike_counts_are_refused(self):
        for one, other in UNLIKE:
            self.assert_refused(Unlike, on_way, one, one, other)
            self.assert_refused(Unlike, on_way, one, other, one)
            self.assert_refused(Unlike, on_way, other, one, one)
        self.assert_refused(Unlike, on_way, (), (0, 1), (0, 1, 2, 3))


class WorksOnWay(RefusingCase):
    def test_ordinary_works(self):
        one = read_work("[0 1 2]")
        texts = ("[0] [1] [2]", "[0] [1 2]", "[0 1] [2]", "[0 1 2]")
        self.assertEqual(works_on_way(one, read_work("[0] [1] [2]")), [read_work(text) for text in texts])
        self.assertEqual(works_on_way((1, 0, 2, 3), (0, 1, 3, 2)), [
            (0, 1, 2, 3), (0, 1, 3, 2), (0, 2, 1, 3), (0, 3, 2, 1),
            (1, 0, 2, 3), (1, 0, 3, 2), (2, 1, 0, 3), (3, 1, 2, 0),
        ])

    def test_edges(self):
        for work in ((), (0, 1), (1, 0), LOOSE, OWN_RINGS, plain_work(40)):
            self.assertEqual(works_on_way(work, work), [work])
        self.assertEqual(works_on_way((1, 0), (0, 1)), [(0, 1), (1, 0)])

    def test_small_works_against_all_rows_found_by_trying(self):
        for one, other in row_pairs():
            passed = {work for row in plain_rows(one, other) for work in works_along(one, row)}
            told = works_on_way(one, other)
            self.assertIs(type(told), list)
            self.assertEqual(told, sorted(passed), (one, other))

    def test_on_way_says_so_of_each_and_of_no_other(self):
        for one, other in row_pairs()[::4]:
            told = works_on_way(one, other)
            works = all_works(len(one) // 2)
            self.assertEqual([work for work in works if on_way(one, work, other)], [w for w in works if w in set(told)])

    def test_on_way_against_the_words_of_the_point(self):
        works = all_works(2)
        for one, middle, other in itertools.product(works, repeat=3):
            needed = deeds_needed(middle)
            on = needed[one] + needed[other] == deeds_needed(one)[other]
            self.assertIs(on_way(one, middle, other), on)

    def test_five_apart_with_forty_staves(self):
        for shape, many in (
            ([("ring", 5)], 132), ([("odd", 5)], 132), ([("bare", 5)], 132), ([("tied", 5)], 132),
            ([("ring", 1)] * 5, 32), ([("bare", 1), ("odd", 2), ("ring", 2)], 50),
            ([("bare", 3), ("tied", 2)], 248), ([("bare", 1)] * 2 + [("tied", 1)] * 3, 416),
        ):
            one, other = shaped_works(40, shape, 9)
            told = self.assert_soon(works_on_way, one, other)
            self.assertEqual(len(told), many, shape)
            self.assertEqual(told, sorted(set(told)))
            self.assertEqual(told, works_on_way(other, one))
            self.assertTrue(all(on_way(one, work, other) for work in told))


class TooFarApart(RefusingCase):
    def test_count_beyond_twelve_or_six_is_refused(self):
        for kind in ("ring", "odd", "bare", "tied"):
            for lacks in ([12], [1] * 12, [7, 5]):
                shape = [(kind, lack) for lack in lacks]
                one, other = shaped_works(40, shape, 1)
                self.assertEqual(fewest_many(one, other), told_count(shape))
                one, other = shaped_works(40, shape + [(kind, 1)], 1)
                self.assert_refused(TooMany, fewest_many, one, other)
            self.assert_refused(TooMany, fewest_many, *shaped_works(40, [(kind, 13)], 1))
        for shape, count in CROSSING_SHAPES:
            self.assertEqual(fewest_many(*shaped_works(40, shape, 1)), count)
            for kind in ("ring", "odd", "bare", "tied"):
                self.assert_refused(TooMany, fewest_many, *shaped_works(40, shape + [(kind, 1)], 1))

    def test_between_the_two_bounds_crossing_alone_is_refused(self):
        for more in range(5, 11):
            plain = [("bare", 1), ("odd", 1), ("ring", more)]
            self.assertEqual(fewest_many(*shaped_works(40, plain)), told_count(plain))
            self.assert_refused(TooMany, fewest_many, *shaped_works(40, [("bare", 1), ("tied", 1), ("ring", more)]))

    def test_list_beyond_five_is_refused(self):
        for kind in ("ring", "odd", "bare", "tied"):
            for lacks in ([5], [1] * 5, [3, 2]):
                shape = [(kind, lack) for lack in lacks]
                self.assertGreater(len(works_on_way(*shaped_works(40, shape, 1))), 5)
                self.assert_refused(TooMany, works_on_way, *shaped_works(40, shape + [("odd", 1)], 1))
            self.assert_refused(TooMany, works_on_way, *shaped_works(40, [(kind, 6)], 1))
        self.assertEqual(len(works_on_way(*shaped_works(40, [("bare", 3), ("tied", 2)]))), 248)
        for shape, count in CROSSING_SHAPES:
            self.assert_refused(TooMany, works_on_way, *shaped_works(40, shape))

    def test_the_farthest_works_are_refused(self):
        for one, other in ((LOOSE, OWN_RINGS), (OWN_RINGS, LOOSE), (plain_work(40), OWN_RINGS)):
            self.assertGreater(apart_by(one, other), 12)
            self.assert_refused(TooMany, fewest_many, one, other)
            self.assert_refused(TooMany, works_on_way, one, other)
            self.assertIs(on_way(one, other, other), True)

    def test_works_of_unlike_counts_are_refused(self):
        for one, other in UNLIKE:
            self.assert_refused(Unlike, fewest_many, one, other)
            self.assert_refused(Unlike, works_on_way, one, other)


class Shapes(unittest.TestCase):
    def test_the_works_have_the_threads_that_are_asked_for(self):
        for shape in PLAIN_SHAPES + [shape for shape, count in CROSSING_SHAPES]:
            laid = threads(*shaped_works(40, shape, 2))
            lacked = [(kind, len(ends) // 2 - (kind == "ring")) for kind, ends in laid]
            self.assertEqual(sorted(part for part in lacked if part[1] > 0), sorted(shape))


if __name__ == "__main__":
    unittest.main()
