"""[6.6], [6.7], [5.2] and the interface of claspwork.turnrow."""

import itertools
import unittest

from claspwork.errors import Unlike
from claspwork.kins import tie_rings
from claspwork.knots import knot_legs, knots_in, turn_score
from claspwork.turnrow import fewest_turns, good_turns, paper_good, paper_score, turn_paper, turns_between
from claspwork.turns import plain_row, row_seen, turn_about, walk_turns
from tests.helper import (
    BACKWARD, DOUBLE, FORTY, KNOT, RefusingCase, all_rows, block_row, edge_rows, glued, great_rows, kin_block,
    nested_rows, small_rows, some_row, turned_rows, turns_needed,
)

SIXTEEN = tuple(range(1, 17))
# Rows of 16 with knots side by side and within one another, and with three ends.
KNOTTED = [
    block_row(glued(DOUBLE, DOUBLE, KNOT, kin_block((-1,)))),
    block_row(glued(KNOT, kin_block((2, 1), [(2, DOUBLE), (1, kin_block((-1,)))]), KNOT)),
    block_row(glued(*[KNOT] * 5, kin_block((-1,)))),
]


def tried_rows():
    """The rows of up to four numbers, and some of five."""
    return small_rows() + all_rows(5)[::9]


def rows_of_sixteen():
    rows = [row for row in edge_rows() if len(row) == 16] + KNOTTED + nested_rows(16, 8)
    return rows + [some_row(16, seed) for seed in range(4)]


def plain_good(row):
    """[6.6] with the scores found by trying."""
    needed = turns_needed(len(row))
    return sorted(turn for turn, behind in turned_rows(row).items() if needed[behind] == needed[row] - 1)


def scored_good(row):
    """[6.6] with the scores as they are told."""
    score = turn_score(row)
    return [turn for turn, behind in turned_rows(row).items() if turn_score(behind) == score - 1]


def changed_papers(paper):
    """Papers that differ from this one in one place."""
    ties, *lists = paper
    yield from ((wrong, *lists) for wrong in (ties - 1, ties + 1, -ties))
    for place, told in enumerate(lists):
        for changed in changed_lists(told):
            yield (ties, *lists[:place], changed, *lists[place + 1:])


def changed_lists(told):
    yield told + told[-1:] if told else ((0, 1),)
    yield told + (1,)
    for place, inner in enumerate(told):
        ahead = told[:place]
        behind = told[place + 1:]
        yield ahead + behind
        if isinstance(inner, tuple):
            for within in range(len(inner)):
                yield ahead + (inner[:within] + (inner[within] + 1,) + inner[within + 1:],) + behind
            yield ahead + (inner[:-1],) + behind
            yield ahead + (inner + (40,),) + behind
        else:
            yield ahead + (inner + 1,) + behind
            yield ahead + (inner - 1,) + behind
    if len(set(told)) > 1:
        yield told[::-1] if told[::-1] != told else told[1:] + told[:1]


class GoodTurns(RefusingCase):
    def test_ordinary_rows(self):
        self.assertEqual(good_turns((3, -1, 2)), [(0, 1), (2, 2)])
        # A knot: whatever is turned, it is one no more.
        self.assertEqual(good_turns((2, 1)), [(0, 0), (0, 1), (1, 1)])

    def test_edges(self):
        self.assertEqual(good_turns(()), [])
        self.assertEqual(good_turns((1,)), [])
        self.assertEqual(good_turns((-1,)), [(0, 0)])
        self.assertEqual(good_turns(SIXTEEN), [])
        self.assertEqual(good_turns(tuple(range(-16, 0))), [(0, 15)])

    def test_small_rows_against_the_fewest_turns_found_by_trying(self):
        for row in tried_rows():
            turns = good_turns(row)
            self.assertIs(type(turns), list)
            self.assertTrue(all(type(turn) is tuple for turn in turns))
            self.assertEqual(turns, plain_good(row), row)

    def test_rows_of_sixteen_against_the_scores(self):
        for row in rows_of_sixteen():
            turns = self.assert_soon(good_turns, row)
            self.assertEqual(turns, scored_good(row), row)
            self.assertEqual(turns == [], row == SIXTEEN)


class FewestTurns(RefusingCase):
    def test_ordinary_rows(self):
        self.assertEqual(fewest_turns((3, -1, 2)), [(0, 1), (1, 2), (1, 1)])
        self.assertEqual(fewest_turns((2, 1)), [(0, 0), (0, 1), (0, 0)])

    def test_edges(self):
        self.assertEqual(fewest_turns(()), [])
        self.assertEqual(fewest_turns((1,)), [])
        self.assertEqual(fewest_turns((-1,)), [(0, 0)])
        self.assertEqual(fewest_turns(SIXTEEN), [])
        self.assertEqual(fewest_turns(tuple(range(-16, 0))), [(0, 15)])
        self.assertEqual(fewest_turns(tuple(range(-1, -17, -1))), [(place, place) for place in range(16)])

    def test_small_rows_against_the_fewest_turns_found_by_trying(self):
        for row in tried_rows():
            turns = fewest_turns(row)
            self.assertIs(type(turns), list)
            self.assertTrue(all(type(turn) is tuple for turn in turns))
            self.assertEqual(len(turns), turns_needed(len(row))[row])
            now = row
            for turn in turns:
                self.assertEqual(turn, plain_good(now)[0], row)
                now = turn_about(now, *turn)
            self.assertEqual(now, plain_row(len(row)))

    def test_rows_of_sixteen_against_the_scores(self):
        for row in rows_of_sixteen():
            turns = self.assert_soon(fewest_turns, row)
            self.assertEqual(len(turns), turn_score(row))
            now = row
            for turn in turns:
                self.assertEqual(turn, scored_good(now)[0])
                now = turn_about(now, *turn)
            self.assertEqual(now, SIXTEEN)


class TurnsBetween(RefusingCase):
    def test_ordinary_rows(self):
        self.assertEqual(turns_between((3, -1, 2), (1, 2, 3)), [(0, 1), (1, 2), (1, 1)])
        self.assertEqual(turns_between((3, -1, 2), (3, 1, 2)), [(1, 1)])
        self.assertEqual(turns_between((2, -1), (1, -2)), [(0, 1)])

    def test_edges(self):
        self.assertEqual(turns_between((), ()), [])
        self.assertEqual(turns_between((-1,), (-1,)), [])
        self.assertEqual(turns_between((-1,), (1,)), [(0, 0)])
        self.assertEqual(turns_between((1,), (-1,)), [(0, 0)])
        for row in rows_of_sixteen():
            self.assertEqual(turns_between(row, row), [])
            self.assertEqual(turns_between(row, SIXTEEN), fewest_turns(row))

    def test_all_small_rows(self):
        for many in range(4):
            for row, other in itertools.product(all_rows(many), repeat=2):
                turns = turns_between(row, other)
                self.assertEqual(turns, fewest_turns(row_seen(row, other)))
                self.assertEqual(([row] + walk_turns(row, turns))[-1], other)

    def test_rows_of_sixteen(self):
        rows = rows_of_sixteen()
        for row, other in zip(rows, rows[1:] + rows[:1]):
            turns = self.assert_soon(turns_between, row, other)
            self.assertIs(type(turns), list)
            self.assertEqual(turns, fewest_turns(row_seen(row, other)))
            self.assertEqual(walk_turns(row, turns)[-1], other)

    def test_rows_of_unlike_counts_are_refused(self):
        for row, other in (((), (1,)), ((1,), (1, 2)), ((1, 2, 3), (-2, 1)), (SIXTEEN, plain_row(15)), ((), SIXTEEN)):
            self.assert_refused(Unlike, turns_between, row, other)
            self.assert_refused(Unlike, turns_between, other, row)


class Papers(RefusingCase):
    def rows(self):
        return tried_rows()[::5] + edge_rows() + great_rows() + KNOTTED + nested_rows(16, 10) + nested_rows(40, 10)

    def test_ordinary_rows(self):
        self.assertEqual(turn_paper((3, 2, 1)), (4, ((0, 2), (1, 3)), ((0, 4),), (1,)))
        self.assertEqual(turn_paper((3, -1, 2)), (4, ((0, 1, 2, 3),), (), ()))
        paper = (6, ((0, 1, 5), (2, 3, 4)), ((0, 6), (1, 4)), (2, 2))
        self.assertEqual(turn_paper((2, 4, 3, 5, 1)), paper)
        self.assertEqual(paper_score(paper), 6)

    def test_edges(self):
        for row, paper in (
            ((), (1, ((0,),), (), ())), ((1,), (2, ((0,), (1,)), (), ())), ((-1,), (2, ((0, 1),), (), ())),
            (FORTY, (41, tuple((tie,) for tie in range(41)), (), ())),
            (BACKWARD, (41, ((0, 40), *((tie,) for tie in range(1, 40))), (), ())),
        ):
            self.assertEqual(turn_paper(row), paper)
            self.assertIs(paper_good(row, paper), True)

    def test_they_tell_the_ties_rings_knots_and_legs(self):
        for row in self.rows():
            paper = self.assert_soon(turn_paper, row)
            self.assertIs(type(paper), tuple)
            wanted = (len(row) + 1, tuple(tie_rings(row)), tuple(knots_in(row)), tuple(knot_legs(row)))
            self.assertEqual(paper, wanted)
            self.assertEqual(self.assert_soon(paper_score, paper), turn_score(row))
            self.assertIs(self.assert_soon(paper_good, row, paper), True)

    def test_the_score_is_reckoned_of_the_paper_alone(self):
        # None of these is the paper of a row.
        for paper, score in (
            ((0, (), (), ()), 0), ((9, (), (), ()), 9), ((9, ((0,), (7, 8)), ((0, 1),), ()), 7),
            ((9, ((0,),), (), (1,)), 9), ((9, ((0,),), (), (2,)), 9), ((9, ((0,),), (), (5,)), 9),
            ((9, ((0,),), (), (2, 2)), 10), ((9, ((0,),), (), (1, 1)), 10), ((9, ((0,),), (), (2, 3)), 10),
            ((9, ((0,),), (), (2, 2, 2)), 12), ((9, ((0,),), (), (2, 1, 3)), 11), ((9, ((0,),), (), (1, 2, 2)), 11),
            ((9, ((0,),), (), (2, 2, 1)), 11), ((9, ((0,),), (), (1, 1, 1)), 11), ((9, ((0,),), (), (2,) * 4), 12),
            ((9, ((0,),), (), (4, 3, 2, 2, 5)), 14), ((9, ((0,),), (), (4, 3, 2, 1, 5)), 13),
            ((99, ((0,),) * 8, ((0, 3), (4, 9)), (7,) * 11), 103),
        ):
            self.assertEqual(paper_score(paper), score, paper)

    def test_a_changed_paper_is_not_good(self):
        for row in self.rows()[::3] + KNOTTED + nested_rows(40, 4):
            paper = turn_paper(row)
            for changed in changed_papers(paper):
                self.assertNotEqual(changed, paper)
                self.assertIs(paper_good(row, changed), False, (row, changed))

    def test_the_paper_of_another_row_is_not_good(self):
        self.assertIs(paper_good((2, 1), turn_paper((-2, 1))), False)
        self.assertIs(paper_good((1, 2), turn_paper((1, -2))), False)
        self.assertIs(paper_good((), turn_paper((1,))), False)
        rows = self.rows()
        for row, other in zip(rows, rows[1:] + rows[:1]):
            # Some rows have the same paper, and it is good for each of them.
            same = turn_paper(row) == turn_paper(other)
            self.assertIs(paper_good(row, turn_paper(other)), same)
            if len(row) != len(other):
                self.assertFalse(same)


if __name__ == "__main__":
    unittest.main()
