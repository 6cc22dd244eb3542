"""[5.1], [5.2] and the interface of claspwork.turns."""

import itertools
import random
import unittest

from claspwork.errors import BadRow, BadStretch, Unlike
from claspwork.turns import made_row, plain_row, row_seen, turn_about, turns_all, walk_turns
from tests.helper import BACKWARD, FAR, FORTY, RefusingCase, all_rows, great_rows, some_row


def plainly_turned(row, first, last):
    """[5.1] word by word, place by place."""
    turned = list(row)
    for place in range(first, last + 1):
        turned[place] = -row[first + last - place]
    return tuple(turned)


def plainly_seen(row, other):
    """[5.2] word by word."""
    seen = []
    for number in row:
        for place, there in enumerate(other, 1):
            if abs(there) == abs(number):
                one_minus = (number < 0) + (there < 0) == 1
                seen.append(-place if one_minus else place)
    return tuple(seen)


def wrong_turns(many):
    """Pairs that are no turns of a row of so many numbers."""
    pairs = [(first, last) for first in range(-3, many + 3) for last in range(-3, many + 3)]
    pairs += [(0, FAR), (FAR, FAR), (-FAR, 0), (-FAR, -FAR), (-FAR, FAR), (FAR, 0), (0, -FAR), (0, 10 * FAR - 1)]
    return [(first, last) for first, last in pairs if first < 0 or first > last or last >= many]


class MadeRows(RefusingCase):
    def test_each_signed_row_is_made_of_a_list_and_of_a_tuple(self):
        for many in range(5):
            for row in all_rows(many):
                for numbers in (row, list(row)):
                    made = made_row(numbers)
                    self.assertIs(type(made), tuple)
                    self.assertEqual(made, row)

    def test_edges(self):
        self.assertEqual(made_row([]), ())
        self.assertEqual(made_row(()), ())
        self.assertEqual(made_row([1]), (1,))
        self.assertEqual(made_row([-1]), (-1,))
        for row in great_rows():
            self.assertEqual(made_row(row), row)
            self.assertEqual(made_row(list(row)), row)

    def test_more_than_forty_numbers_are_refused(self):
        for many in (41, 42, 80, 1000):
            self.assert_refused(BadRow, made_row, list(range(1, many + 1)))
            self.assert_refused(BadRow, made_row, tuple(range(-many, 0)))
            self.assert_refused(BadRow, made_row, [1] * many)

    def test_amounts_that_do_not_each_stand_once_are_refused(self):
        for numbers in (
            [0], [2], [-2], [1, 1], [1, -1], [-1, -1], [0, 1], [1, 3], [2, 3], [1, 2, 2], [-3, 1, 3], [1, 2, 4],
        ):
            self.assert_refused(BadRow, made_row, numbers)
            self.assert_refused(BadRow, made_row, tuple(numbers))

    def test_all_short_lists(self):
        for many in range(4):
            for numbers in itertools.product(range(-many - 1, many + 2), repeat=many):
                if sorted(abs(number) for number in numbers) == list(range(1, many + 1)):
                    self.assertEqual(made_row(list(numbers)), numbers)
                else:
                    self.assert_refused(BadRow, made_row, list(numbers))

    def test_one_wrong_number_is_refused_wherever_it_stands(self):
        for row in ((1,), (2, -1, 3), FORTY, BACKWARD):
            many = len(row)
            for place in range(many):
                for wrong in (0, many + 1, -many - 1, FAR, -FAR, 10 * FAR - 1, row[place - 1] if many > 1 else 0):
                    self.assert_refused(BadRow, made_row, row[:place] + (wrong,) + row[place + 1:])


class PlainRows(unittest.TestCase):
    def test_they_are_told_from_one_on(self):
        for many, row in ((0, ()), (1, (1,)), (2, (1, 2)), (5, (1, 2, 3, 4, 5)), (40, FORTY)):
            self.assertEqual(plain_row(many), row)
            self.assertIs(type(plain_row(many)), tuple)
        for many in range(41):
            self.assertEqual(made_row(plain_row(many)), plain_row(many))
            self.assertEqual(len(plain_row(many)), many)


class Turns(RefusingCase):
    def test_ordinary_turns(self):
        row = (3, -1, 2, 5, -4)
        for first, last, behind in (
            (0, 0, (-3, -1, 2, 5, -4)), (4, 4, (3, -1, 2, 5, 4)), (1, 3, (3, -5, -2, 1, -4)), (0, 1, (1, -3, 2, 5, -4)),
            (0, 4, (4, -5, -2, 1, -3)), (3, 4, (3, -1, 2, 4, -5)),
        ):
            self.assertEqual(turn_about(row, first, last), behind)

    def test_all_turns_of_small_and_great_rows(self):
        rows = [row for many in range(5) for row in all_rows(many)] + great_rows()
        for row in rows:
            for first, last in turns_all(len(row)):
                behind = turn_about(row, first, last)
                self.assertIs(type(behind), tuple)
                self.assertEqual(behind, plainly_turned(row, first, last))
                self.assertNotEqual(behind, row)
                self.assertEqual(turn_about(behind, first, last), row)

    def test_wrong_stretches_are_refused(self):
        for many in (0, 1, 2, 5, 40):
            for row in (plain_row(many), some_row(many, 1)):
                for first, last in wrong_turns(many):
                    self.assert_refused(BadStretch, turn_about, row, first, last)

    def test_all_turns_are_told_in_ascending_order(self):
        self.assertEqual(turns_all(0), [])
        self.assertEqual(turns_all(1), [(0, 0)])
        self.assertEqual(turns_all(3), [(0, 0), (0, 1), (0, 2), (1, 1), (1, 2), (2, 2)])
        for many in (2, 4, 7, 40):
            turns = turns_all(many)
            self.assertIs(type(turns), list)
            wanted = [pair for pair in itertools.product(range(many), repeat=2) if pair[0] <= pair[1]]
            self.assertEqual(turns, sorted(wanted))
            self.assertTrue(all(type(turn) is tuple for turn in turns))
        self.assertEqual(len(turns_all(40)), 820)


class WalkedTurns(RefusingCase):
    def test_ordinary_walks(self):
        row = (3, -1, 2)
        self.assertEqual(walk_turns(row, [(0, 1), (1, 2), (1, 1)]), [(1, -3, 2), (1, -2, 3), (1, 2, 3)])
        self.assertEqual(walk_turns(row, [(0, 2), (0, 2)]), [(-2, 1, -3), (3, -1, 2)])

    def test_edges(self):
        for row in ((), (1,), (-1,), FORTY):
            self.assertEqual(walk_turns(row, []), [])
        self.assertEqual(walk_turns((1,), [(0, 0)]), [(-1,)])
        self.assertEqual(walk_turns(FORTY, [(0, 39)]), [BACKWARD])

    def test_all_walks_of_two_turns(self):
        for row in all_rows(3)[::5] + [some_row(4, seed) for seed in range(4)]:
            turns = turns_all(len(row))
            for first, second in itertools.product(turns, repeat=2):
                walked = walk_turns(row, [first, second])
                self.assertIs(type(walked), list)
                behind = plainly_turned(row, *first)
                self.assertEqual(walked, [behind, plainly_turned(behind, *second)])

    def test_all_turns_one_behind_another_and_back_again_are_done_soon(self):
        turns = turns_all(40)
        for row in great_rows():
            walked = self.assert_soon(walk_turns, row, turns + turns[::-1])
            self.assertEqual(len(walked), 1640)
            self.assertEqual(walked[-1], row)
            self.assertEqual(walked[:819], walked[820:1639][::-1])

    def test_wrong_stretches_are_refused_wherever_they_stand(self):
        for row in ((), (1,), (2, -1), some_row(5, 3)):
            right = turns_all(len(row))[:2]
            for wrong in wrong_turns(len(row)):
                for turns in ([wrong], right + [wrong], [wrong] + right, right + [wrong] + right):
                    self.assert_refused(BadStretch, walk_turns, row, turns)


class RowsSeen(RefusingCase):
    def test_ordinary_rows(self):
        self.assertEqual(row_seen((3, -1, 2), (1, 2, 3)), (3, -1, 2))
        self.assertEqual(row_seen((1, 2, 3), (3, -1, 2)), (-2, 3, 1))
        self.assertEqual(row_seen((3, -1, 2), (-1, -2, 3)), (3, 1, -2))
        self.assertEqual(row_seen((-1,), (-1,)), (1,))
        self.assertEqual(row_seen((1,), (-1,)), (-1,))
        self.assertEqual(row_seen((-1,), (1,)), (-1,))

    def test_all_small_rows_against_the_words_of_the_point(self):
        for many in range(4):
            for row, other in itertools.product(all_rows(many), repeat=2):
                seen = row_seen(row, other)
                self.assertIs(type(seen), tuple)
                self.assertEqual(seen, plainly_seen(row, other))
                self.assertEqual(made_row(seen), seen)

    def test_great_rows_against_the_words_of_the_point(self):
        for row, other in itertools.product(great_rows(), repeat=2):
            self.assertEqual(self.assert_soon(row_seen, row, other), plainly_seen(row, other))

    def test_edges(self):
        self.assertEqual(row_seen((), ()), ())
        for row in [row for many in range(4) for row in all_rows(many)] + great_rows():
            self.assertEqual(row_seen(row, row), plain_row(len(row)))
            self.assertEqual(row_seen(row, plain_row(len(row))), row)

    def test_turns_that_lead_to_the_other_lead_what_is_seen_to_the_plain_one(self):
        turns = turns_all(3)
        for row, other in itertools.product(all_rows(3)[::5], all_rows(3)[::3]):
            seen = row_seen(row, other)
            for walk in itertools.product(turns, repeat=2):
                there = walk_turns(row, list(walk))[-1] == other
                self.assertEqual(walk_turns(seen, list(walk))[-1] == plain_row(3), there)
        for seed, row in enumerate(great_rows()):
            chance = random.Random(seed)
            walk = [chance.choice(turns_all(40)) for step in range(30)]
            other = walk_turns(row, walk)[-1]
            self.assertEqual(walk_turns(row_seen(row, other), walk)[-1], FORTY)

    def test_rows_of_unlike_counts_are_refused(self):
        for row, other in (((), (1,)), ((1,), (1, 2)), ((1, 2, 3), (-2, 1)), (FORTY, plain_row(39)), ((), BACKWARD)):
            self.assert_refused(Unlike, row_seen, row, other)
            self.assert_refused(Unlike, row_seen, other, row)


if __name__ == "__main__":
    unittest.main()
