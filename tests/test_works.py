"""[1.1], [1.2], [1.4], [0.3], [0.5] and the interface of claspwork.works."""

import itertools
import unittest

from claspwork.errors import BadWork
from claspwork.works import (
    clasps_of, far_end, loose_ends, made_work, moved_work, plain_work, staves_in, work_by,
)
from tests.helper import FAR, MIXED, RefusingCase, all_works, great_works, small_works, wrong_ends


class MadeWork(RefusingCase):
    def test_ordinary_works(self):
        self.assertEqual(made_work([0, 2, 1, 3]), (0, 2, 1, 3))
        self.assertEqual(made_work(list(MIXED)), MIXED)

    def test_a_list_and_a_tuple_make_the_same_tuple(self):
        for work in small_works() + great_works():
            for handed in (list(work), work):
                made = made_work(handed)
                self.assertIs(type(made), tuple)
                self.assertEqual(made, work)

    def test_edges(self):
        self.assertEqual(made_work([]), ())
        self.assertEqual(made_work(()), ())
        self.assertEqual(made_work([0, 1]), (0, 1))
        self.assertEqual(made_work([1, 0]), (1, 0))
        self.assertEqual(made_work(list(range(80))), tuple(range(80)))
        rings = [end ^ 1 for end in range(80)]
        self.assertEqual(made_work(rings), tuple(rings))

    def test_just_the_works_are_taken(self):
        for many in range(5):
            works = all_works(many // 2) if many % 2 == 0 else []
            for mates in itertools.product(range(-many - 1, many + 2), repeat=many):
                if mates in works:
                    self.assertEqual(made_work(list(mates)), mates)
                else:
                    self.assert_refused(BadWork, made_work, list(mates))

    def test_odd_counts_are_refused(self):
        for many in (1, 3, 79, 81):
            self.assert_refused(BadWork, made_work, list(range(many)))

    def test_more_than_eighty_are_refused(self):
        for many in (81, 82, 84, 160, 1000):
            self.assert_refused(BadWork, made_work, list(range(many)))
            self.assert_refused(BadWork, made_work, tuple(range(many)))

    def test_numbers_that_are_no_ends_are_refused(self):
        for ends in (2, 10, 80):
            for wrong in wrong_ends(ends):
                for place in (0, ends - 1):
                    mates = list(range(ends))
                    mates[place] = wrong
                    self.assert_refused(BadWork, made_work, mates)

    def test_an_end_that_does_not_tell_the_place_again_is_refused(self):
        self.assert_refused(BadWork, made_work, [1, 1])
        self.assert_refused(BadWork, made_work, [0, 0])
        self.assert_refused(BadWork, made_work, [1, 2, 0, 3])
        self.assert_refused(BadWork, made_work, [0, 1, 2, 1])
        self.assert_refused(BadWork, made_work, list(range(1, 80)) + [0])


class Ends(unittest.TestCase):
    def test_far_end_is_the_other_end_of_the_stave(self):
        for stave in range(40):
            self.assertEqual(far_end(2 * stave), 2 * stave + 1)
            self.assertEqual(far_end(2 * stave + 1), 2 * stave)

    def test_staves_in(self):
        self.assertEqual(staves_in(()), 0)
        self.assertEqual(staves_in((0, 1)), 1)
        self.assertEqual(staves_in(MIXED), 5)
        self.assertEqual(staves_in(tuple(range(80))), 40)


class ClaspsAndLooseEnds(unittest.TestCase):
    def test_an_ordinary_work(self):
        self.assertEqual(clasps_of(MIXED), [(1, 5), (2, 6), (3, 7), (8, 9)])
        self.assertEqual(loose_ends(MIXED), [0, 4])

    def test_edges(self):
        self.assertEqual(clasps_of(()), [])
        self.assertEqual(loose_ends(()), [])
        self.assertEqual(clasps_of((1, 0)), [(0, 1)])
        self.assertEqual(loose_ends((1, 0)), [])
        loose = tuple(range(80))
        self.assertEqual(clasps_of(loose), [])
        self.assertEqual(loose_ends(loose), list(range(80)))

    def test_every_end_is_told_once_and_in_order(self):
        for work in small_works() + great_works():
            clasps = clasps_of(work)
            loose = loose_ends(work)
            self.assertIs(type(clasps), list)
            self.assertIs(type(loose), list)
            self.assertEqual(clasps, sorted(clasps))
            self.assertEqual(loose, sorted(loose))
            ends = list(loose)
            for clasp in clasps:
                self.assertIs(type(clasp), tuple)
                one, other = clasp
                self.assertLess(one, other)
                self.assertEqual((work[one], work[other]), (other, one))
                ends.extend(clasp)
            for end in loose:
                self.assertEqual(work[end], end)
            self.assertEqual(sorted(ends), list(range(len(work))))


class WorkBy(RefusingCase):
    def test_ordinary_works(self):
        self.assertEqual(work_by(2, [(1, 2)]), (0, 2, 1, 3))
        self.assertEqual(work_by(5, [(8, 9), (7, 3), (1, 5), (6, 2)]), MIXED)
        self.assertEqual(work_by(5, [[9, 8], [3, 7], [5, 1], [2, 6]]), MIXED)

    def test_edges(self):
        self.assertEqual(work_by(0, []), ())
        self.assertEqual(work_by(1, []), (0, 1))
        self.assertEqual(work_by(1, [(1, 0)]), (1, 0))
        self.assertEqual(work_by(40, []), tuple(range(80)))
        self.assertEqual(work_by(40, [(79, 0)]), (79,) + tuple(range(1, 79)) + (0,))

    def test_clasps_lead_back_to_their_work_in_any_order(self):
        for work in small_works() + great_works():
            clasps = clasps_of(work)
            turned = [(other, one) for one, other in reversed(clasps)]
            for handed in (clasps, turned):
                made = work_by(staves_in(work), handed)
                self.assertIs(type(made), tuple)
                self.assertEqual(made, work)

    def test_numbers_that_are_no_ends_are_refused(self):
        for staves in (1, 5, 40):
            for wrong in wrong_ends(2 * staves):
                self.assert_refused(BadWork, work_by, staves, [(0, wrong)])
                self.assert_refused(BadWork, work_by, staves, [(wrong, 0)])
                self.assert_refused(BadWork, work_by, staves, [(0, 1), (wrong, wrong + 1)])
        for clasp in ((0, 1), (-1, -2), (-1, 0), (FAR, FAR + 1)):
            self.assert_refused(BadWork, work_by, 0, [clasp])

    def test_an_end_that_stands_twice_is_refused(self):
        twice = (
            [(0, 1), (1, 2)], [(0, 1), (0, 1)], [(0, 1), (1, 0)], [(2, 0), (3, 0)],
            [(1, 2), (0, 3), (2, 3)], [(3, 3)], [(0, 0)], [(0, 1), (2, 2)],
        )
        for clasps in twice:
            self.assert_refused(BadWork, work_by, 2, clasps)
            self.assert_refused(BadWork, work_by, 40, clasps)


class PlainWork(unittest.TestCase):
    def test_heads_are_clasped_to_the_next_feet(self):
        self.assertEqual(plain_work(2), (0, 2, 1, 3))
        self.assertEqual(plain_work(3), (0, 2, 1, 4, 3, 5))
        for staves in range(2, 41):
            plain = plain_work(staves)
            self.assertIs(type(plain), tuple)
            self.assertEqual(len(plain), 2 * staves)
            self.assertEqual(clasps_of(plain), [(2 * k + 1, 2 * k + 2) for k in range(staves - 1)])
            self.assertEqual(loose_ends(plain), [0, 2 * staves - 1])

    def test_edges(self):
        self.assertEqual(plain_work(0), ())
        self.assertEqual(plain_work(1), (0, 1))


def back_list(ends):
    """The list of ends that leads back what the list leads forth."""
    back = [None] * len(ends)
    for stave, foot in enumerate(ends):
        # Where the foot came to lie at a head, a head lies now where the foot of that stave was.
        back[foot // 2] = 2 * stave if foot % 2 == 0 else 2 * stave + 1
    return back


class MovedWork(RefusingCase):
    def test_ordinary_works(self):
        # The clasp (1, 2) becomes the one of stave 1's head and stave 0's foot.
        self.assertEqual(moved_work((0, 2, 1, 3), [2, 0]), (3, 1, 2, 0))
        # Stave 0 is turned about: its head lies at 0 now.
        self.assertEqual(moved_work((0, 2, 1, 3), [1, 2]), (2, 1, 0, 3))
        # Foot 0 lies at 5, head 1 at 4, foot 2 at 0, head 3 at 1, foot 4 at 3, head 5 at 2.
        self.assertEqual(moved_work((0, 2, 1, 4, 3, 5), [5, 0, 3]), (4, 3, 2, 1, 0, 5))

    def test_edges(self):
        self.assertEqual(moved_work((), []), ())
        for foot in (0, 1):
            self.assertEqual(moved_work((0, 1), [foot]), (0, 1))
            self.assertEqual(moved_work((1, 0), [foot]), (1, 0))

    def test_each_end_comes_to_lie_where_it_is_told(self):
        for work in small_works():
            staves = staves_in(work)
            if staves > 3:
                continue
            for order in itertools.permutations(range(staves)):
                for turned in itertools.product((0, 1), repeat=staves):
                    ends = [2 * k + t for k, t in zip(order, turned)]
                    moved = moved_work(work, ends)
                    self.assertIs(type(moved), tuple)
                    self.assertEqual(len(moved), len(work))
                    place = []
                    for foot in ends:
                        place.extend((foot, foot ^ 1))
                    for end, mate in enumerate(work):
                        self.assertEqual(moved[place[end]], place[mate])
                    self.assertEqual(moved_work(moved, back_list(ends)), work)

    def test_great_works_are_led_back(self):
        for work in great_works():
            for step in (1, 3, 7, 39):
                ends = [2 * (stave * step % 40) + stave % 3 % 2 for stave in range(40)]
                moved = moved_work(work, ends)
                self.assertEqual(len(clasps_of(moved)), len(clasps_of(work)))
                self.assertEqual(moved_work(moved, back_list(ends)), work)
            self.assertEqual(moved_work(work, list(range(0, 80, 2))), work)

    def test_a_stave_left_out_twice_or_too_many_is_refused(self):
        work = plain_work(3)
        wrong = (
            [], [0], [0, 2], [0, 2, 4, 6], [0, 2, 4, 5], [0, 2, 2], [0, 2, 3], [0, 1, 2],
            [1, 0, 4], [2, 4, 6], [0, 4, 6], [0, 4, 7],
        )
        for ends in wrong:
            self.assert_refused(BadWork, moved_work, work, ends)
        self.assert_refused(BadWork, moved_work, (), [0])
        self.assert_refused(BadWork, moved_work, plain_work(40), list(range(0, 82, 2)))
        self.assert_refused(BadWork, moved_work, plain_work(40), list(range(0, 78, 2)))

    def test_numbers_that_are_no_ends_are_refused(self):
        for staves in (1, 3, 40):
            for wrong in wrong_ends(2 * staves):
                for stave in (0, staves - 1):
                    ends = list(range(0, 2 * staves, 2))
                    ends[stave] = wrong
                    self.assert_refused(BadWork, moved_work, plain_work(staves), ends)


if __name__ == "__main__":
    unittest.main()
