"""[6.1] to [6.5] and the interface of claspwork.knots."""

import collections
import unittest

from claspwork.kins import framed, gap_kins, kin_spans, open_gaps, tie_rings
from claspwork.knots import knot_cost, knot_ends, knot_legs, knots_in, turn_score
from claspwork.turns import plain_row
from tests.helper import (
    BACKWARD, DOUBLE, FORTY, KNOT, RefusingCase, SHUT, TRIPLE, all_rows, block_row, edge_rows, glued, great_rows,
    kin_block, nested_rows, small_rows, some_row, turned_rows, turns_needed,
)

FOURFOLD = kin_block((2, 1), [(2, TRIPLE)])
# A knot, and two of them, within a kin that is none: all their numbers have a minus.
MINUS_KNOT = kin_block((-1,), [(1, KNOT)])
MINUS_DOUBLE = kin_block((-1,), [(1, DOUBLE)])

# A whole stretch, and of its row the knots, the ends of the thinned web, the counts of knots in the legs, the cost.
TOLD = (
    (SHUT, [], [], [], 0),
    (kin_block((-1,)), [], [], [], 0),
    (kin_block((2, -1)), [], [], [], 0),
    (KNOT, [(0, 3)], [(0, 3)], [1], 1),
    (glued(SHUT, KNOT, SHUT), [(1, 4)], [(1, 4)], [1], 1),
    (MINUS_KNOT, [(1, 4)], [(1, 4)], [1], 1),
    # Two: side by side, the one within the other, and with a kin between that is no knot.
    (glued(KNOT, KNOT), [(0, 3), (3, 6)], [(0, 3), (3, 6)], [2, 2], 2),
    (DOUBLE, [(0, 6), (1, 4)], [(0, 6), (1, 4)], [2, 2], 2),
    (glued(KNOT, MINUS_KNOT), [(0, 3), (4, 7)], [(0, 3), (4, 7)], [2, 2], 2),
    # Three and four, two of which are ends.
    (TRIPLE, [(0, 9), (1, 7), (2, 5)], [(0, 9), (2, 5)], [3, 3], 2),
    (kin_block((2, 1), [(1, KNOT), (2, KNOT)]), [(0, 9), (1, 4), (5, 8)], [(1, 4), (5, 8)], [3, 3], 2),
    (glued(DOUBLE, KNOT), [(0, 6), (1, 4), (6, 9)], [(1, 4), (6, 9)], [3, 3], 2),
    (glued(DOUBLE, DOUBLE), [(0, 6), (1, 4), (6, 12), (7, 10)], [(1, 4), (7, 10)], [4, 4], 2),
    # Three ends, and a leg that is not long.
    (glued(KNOT, KNOT, KNOT), [(0, 3), (3, 6), (6, 9)], [(0, 3), (3, 6), (6, 9)], [1, 1, 1], 3),
    (
        glued(DOUBLE, KNOT, DOUBLE), [(0, 6), (1, 4), (6, 9), (9, 15), (10, 13)], [(1, 4), (6, 9), (10, 13)],
        [2, 1, 2], 3,
    ),
    (
        glued(MINUS_KNOT, DOUBLE, TRIPLE), [(1, 4), (5, 11), (6, 9), (11, 20), (12, 18), (13, 16)],
        [(1, 4), (6, 9), (13, 16)], [1, 2, 3], 3,
    ),
    # A knot with more than two links is of no leg.
    (
        kin_block((3, 2, 1), [(1, KNOT), (2, KNOT), (3, KNOT)]), [(0, 13), (1, 4), (5, 8), (9, 12)],
        [(1, 4), (5, 8), (9, 12)], [1, 1, 1], 3,
    ),
    # Three ends with long legs: that costs one more.
    (
        glued(DOUBLE, DOUBLE, DOUBLE), [(0, 6), (1, 4), (6, 12), (7, 10), (12, 18), (13, 16)],
        [(1, 4), (7, 10), (13, 16)], [2, 2, 2], 4,
    ),
    (
        glued(DOUBLE, MINUS_DOUBLE, DOUBLE), [(0, 6), (1, 4), (7, 13), (9, 12), (14, 20), (15, 18)],
        [(1, 4), (9, 12), (15, 18)], [2, 2, 2], 4,
    ),
    (
        glued(KNOT, kin_block((2, 1), [(2, glued(DOUBLE, DOUBLE))])),
        [(0, 3), (3, 18), (4, 10), (5, 8), (10, 16), (11, 14)], [(0, 3), (5, 8), (11, 14)], [2, 2, 2], 4,
    ),
    (
        kin_block((2, 1), [(1, KNOT), (2, glued(DOUBLE, DOUBLE))]),
        [(0, 18), (1, 7), (2, 5), (7, 13), (8, 11), (14, 17)], [(2, 5), (8, 11), (14, 17)], [2, 2, 2], 4,
    ),
)
# Rows of 17 to 40 numbers, and of them the counts of knots in the legs and the cost.
GREAT_TOLD = (
    (glued(DOUBLE, DOUBLE, DOUBLE, DOUBLE), [2, 2, 2, 2], 4),
    (glued(*[DOUBLE] * 5), [2, 2, 2, 2, 2], 6),
    (glued(DOUBLE, DOUBLE, KNOT, DOUBLE, DOUBLE), [2, 2, 1, 2, 2], 5),
    (glued(SHUT, FOURFOLD, SHUT, FOURFOLD, SHUT, SHUT, FOURFOLD, SHUT), [4, 4, 4], 4),
    (glued(FOURFOLD, KNOT, FOURFOLD, MINUS_DOUBLE, SHUT, SHUT, KNOT), [4, 1, 4, 2, 1], 5),
    (glued(*[KNOT] * 13, SHUT, SHUT), [1] * 13, 13),
)


def costly_rows():
    """Rows with an odd count of ends greater than one, and all legs long."""
    return [block_row(told[0]) for told in TOLD + GREAT_TOLD if told[-1] == len(told[-2]) + 1]


def tried_rows():
    rows = small_rows() + all_rows(5)[::7] + edge_rows() + great_rows() + nested_rows(16, 60) + nested_rows(40, 60)
    rows += [some_row(many, seed) for many in (6, 7, 9, 16) for seed in range(5)]
    return rows + [block_row(told[0]) for told in TOLD + GREAT_TOLD]


def plain_knots(row):
    """[6.1] word by word."""
    numbers = framed(row)
    belongs = gap_kins(row)
    knots = []
    for kin in kin_spans(row):
        gaps = [gap for gap in open_gaps(row) if belongs[gap] == kin]
        minuses = {number < 0 for gap in gaps for number in numbers[gap:gap + 2]}
        if gaps and minuses in ({True}, {False}):
            knots.append(kin)
    return knots


def hang_together(kins):
    """The sets of kins that meet one another, found by trying."""
    chains = [[kin] for kin in kins]
    for a, b in kins:
        met = [chain for chain in chains if (a, b) in chain or any(a == d or b == c for c, d in chain)]
        chains = [chain for chain in chains if chain not in met] + [[kin for chain in met for kin in chain]]
    return [frozenset(chain) for chain in chains]


def plain_web(row):
    """[6.2]: for each kin and each chain (a set of kins) the list of what it is linked to."""
    kins = kin_spans(row)
    web = {kin: [] for kin in kins}
    for chain in hang_together(kins):
        around = [(a, b) for a, b in kins if all(a < c and d < b for c, d in chain)]
        web[chain] = sorted(chain) + sorted(around, key=lambda kin: kin[1] - kin[0])[:1]
        for kin in web[chain]:
            web[kin].append(chain)
    return web


def way_in(web, start):
    """For each thing the thing ahead of it on the way from a start, found by walking the web."""
    ahead = {start: None}
    fresh = [start]
    while fresh:
        thing = fresh.pop()
        for linked in web[thing]:
            if linked not in ahead:
                ahead[linked] = thing
                fresh.append(linked)
    return ahead


def plain_thinned(row):
    """[6.3]: what is left are the knots, and what lies between two of them."""
    web = plain_web(row)
    knots = plain_knots(row)
    left = set(knots)
    for knot in knots:
        ahead = way_in(web, knot)
        for thing in knots:
            while thing is not None:
                left.add(thing)
                thing = ahead[thing]
    return {thing: [linked for linked in web[thing] if linked in left] for thing in left}


def plain_leg(web, end):
    """[6.3] word by word: the things of the leg of an end."""
    leg = []
    onward = [end]
    while onward and len(web[onward[0]]) <= 2:
        leg.append(onward[0])
        onward = [linked for linked in web[onward[0]] if linked not in leg]
    return leg


class Knots(RefusingCase):
    def assert_told(self, call, row, wanted):
        told = self.assert_soon(call, row)
        self.assertIs(type(told), type(wanted))
        self.assertEqual(told, wanted, (call, row))

    def test_ordinary_rows(self):
        for block, knots, ends, legs, cost in TOLD:
            row = block_row(block)
            self.assert_told(knots_in, row, knots)
            self.assert_told(knot_ends, row, ends)
            self.assert_told(knot_legs, row, legs)
            self.assert_told(knot_cost, row, cost)
            self.assert_told(turn_score, row, len(row) + 1 - len(tie_rings(row)) + cost)

    def test_great_rows(self):
        for block, legs, cost in GREAT_TOLD:
            row = block_row(block)
            self.assert_told(knot_legs, row, legs)
            self.assert_told(knot_cost, row, cost)
            self.assertEqual(len(knot_ends(row)), len(legs))
        self.assertEqual([len(row) for row in costly_rows()], [17, 19, 17, 17, 29, 40])

    def test_edges(self):
        for row in ((), (1,), (-1,), FORTY, BACKWARD):
            for call in (knots_in, knot_ends, knot_legs):
                self.assert_told(call, row, [])
            self.assert_told(knot_cost, row, 0)
        for row, score in (((), 0), ((1,), 0), ((-1,), 1), (FORTY, 0), (BACKWARD, 1), (tuple(range(-1, -41, -1)), 40)):
            self.assert_told(turn_score, row, score)
        # All numbers with a minus, and yet no knot: the frame's two numbers have none.
        self.assert_told(knots_in, (-1, -2), [])
        self.assert_told(knots_in, (-2, -1), [])

    def test_knots_against_the_words_of_the_point(self):
        for row in tried_rows():
            self.assert_told(knots_in, row, plain_knots(row))

    def test_a_minus_beside_a_gap_of_a_kin_within_does_not_count(self):
        # 0 2 -4 3 5 1 6: from 2 to 5 a kin, which is no knot.
        self.assert_told(knots_in, (2, -4, 3, 5, 1), [(0, 6)])

    def test_the_web_has_no_rounds_and_joins_all_its_things(self):
        for row in tried_rows():
            web = plain_web(row)
            self.assertEqual(sum(len(linked) for linked in web.values()), 2 * (len(web) - 1))
            self.assertEqual(len(way_in(web, kin_spans(row)[0])), len(web))

    def test_ends_and_legs_against_the_words_of_the_points(self):
        for row in tried_rows():
            knots = plain_knots(row)
            web = plain_thinned(row)
            ends = sorted(knot for knot in knots if len(web[knot]) <= 1)
            self.assert_told(knot_ends, row, ends)
            legs = [len([thing for thing in plain_leg(web, end) if thing in knots]) for end in ends]
            self.assert_told(knot_legs, row, legs)

    def test_the_cost_against_the_words_of_the_point(self):
        met = collections.Counter()
        for row in tried_rows():
            legs = knot_legs(row)
            more = len(legs) in range(3, 41, 2) and all(leg > 1 for leg in legs)
            self.assert_told(knot_cost, row, len(legs) + more)
            met[min(len(legs), 4), more] += 1
        # All counts of ends are among those tried.
        for ends in range(5):
            self.assertGreater(met[ends, False], 5)
        self.assertGreater(met[3, True], 3)


class Scores(RefusingCase):
    def test_ordinary_rows(self):
        for row, score in (
            ((2, 1), 3), ((3, 2, 1), 3), ((3, -1, 2), 3), ((-2, -1), 1), ((-1, -2), 2), ((2, 1, 3, 5, 4), 6),
            ((2, 4, 3, 5, 1), 6), ((2, 1, 3, 5, 4, 6, 8, 7), 9),
        ):
            self.assertEqual(turn_score(row), score)

    def test_it_is_the_count_of_the_fewest_turns_found_by_trying(self):
        for many in range(6):
            for row, needed in turns_needed(many).items():
                self.assertEqual(turn_score(row), needed, row)

    def test_it_is_reckoned_of_ties_rings_and_cost(self):
        for row in tried_rows():
            self.assertEqual(turn_score(row), len(row) + 1 - len(tie_rings(row)) + knot_cost(row))

    def test_it_is_nought_for_the_plain_row_alone(self):
        for row in tried_rows():
            self.assertEqual(turn_score(row) == 0, row == plain_row(len(row)))

    def test_no_turn_lessens_it_by_more_than_one_and_some_turn_by_one(self):
        rows = small_rows() + nested_rows(16, 25) + nested_rows(40, 4) + [FORTY, BACKWARD, some_row(40, 1)]
        rows += [block_row(told[0]) for told in TOLD] + costly_rows()
        for row in rows:
            score = turn_score(row)
            behind = [turn_score(onward) for onward in turned_rows(row).values()]
            if score > 0:
                self.assertEqual(min(behind), score - 1, row)
            # Each turn leads back, so none makes it greater by more than one either.
            self.assertLessEqual(max(behind, default=0), score + 1, row)

    def test_the_greatest_rows_are_answered_soon(self):
        for row in great_rows() + nested_rows(40, 10) + costly_rows():
            for call in (knots_in, knot_ends, knot_legs, knot_cost, turn_score):
                self.assert_soon(call, row)


if __name__ == "__main__":
    unittest.main()
