"""[5.3] to [5.6] and the interface of claspwork.kins."""

import itertools
import unittest

from claspwork.kins import framed, gap_kins, kin_spans, open_gaps, tie_gaps, tie_rings, ties_crossed
from tests.helper import (
    BACKWARD, DOUBLE, FORTY, KNOT, RefusingCase, block_row, edge_rows, glued, great_rows, kin_block, nested_rows,
    small_rows, some_row, turned_rows,
)


def tried_rows():
    """Ordinary rows, the edges, and rows of kins within kins."""
    rows = small_rows() + edge_rows() + great_rows() + nested_rows(16, 20) + nested_rows(40, 20)
    return rows + [some_row(many, seed) for many in (5, 6, 7, 9, 16) for seed in range(5)]


def plain_frame(row):
    """[5.3] word by word: the places with their numbers."""
    numbers = {0: 0, len(row) + 1: len(row) + 1}
    for place, number in enumerate(row, 1):
        numbers[place] = number
    return numbers


def plain_ties(row):
    """[5.4] word by word."""
    frame = plain_frame(row)
    places = {abs(number): place for place, number in frame.items()}

    def gap_ahead(amount):
        return places[amount] - 1

    def gap_behind(amount):
        return places[amount]

    ties = []
    for k in range(len(row) + 1):
        begin = gap_ahead(k) if frame[places[k]] < 0 else gap_behind(k)
        end = gap_behind(k + 1) if frame[places[k + 1]] < 0 else gap_ahead(k + 1)
        ties.append((begin, end))
    return ties


def plain_crossed(row):
    amounts = {abs(number): number < 0 for number in plain_frame(row).values()}
    return [k for k in range(len(row) + 1) if amounts[k] + amounts[k + 1] == 1]


def plain_rings(row):
    """[5.5] by trying: ties are put together for as long as two sets of them meet a gap in common."""
    ties = plain_ties(row)
    sets = [{k} for k in range(len(ties))]
    changed = True
    while changed:
        changed = False
        for one, other in itertools.combinations(sets, 2):
            if {gap for k in one for gap in ties[k]} & {gap for k in other for gap in ties[k]}:
                sets = [kept for kept in sets if kept not in (one, other)] + [one | other]
                changed = True
                break
    return sorted(tuple(sorted(ring)) for ring in sets)


def is_whole(numbers):
    """[5.6]: whether these numbers, in their order, are a whole stretch."""
    low = min(abs(number) for number in numbers)
    high = max(abs(number) for number in numbers)
    if sorted(abs(number) for number in numbers) != list(range(low, high + 1)):
        return False
    return (numbers[0], numbers[-1]) in ((low, high), (-high, -low))


def plain_kins(row):
    """[5.6] by trying all stretches."""
    frame = plain_frame(row)
    whole = set()
    for a, b in itertools.combinations(range(len(row) + 2), 2):
        if is_whole([frame[place] for place in range(a, b + 1)]):
            whole.add((a, b))
    return sorted((a, b) for a, b in whole if not any((a, c) in whole and (c, b) in whole for c in range(a, b)))


class Frames(RefusingCase):
    def test_ordinary_rows(self):
        self.assertEqual(framed((3, -1, 2)), (0, 3, -1, 2, 4))
        self.assertEqual(open_gaps((3, -1, 2)), [0, 1, 2, 3])
        self.assertEqual(open_gaps((1, -3, -2, 4, 6, 5)), [1, 3, 4, 5, 6])

    def test_edges(self):
        self.assertEqual(framed(()), (0, 1))
        self.assertEqual(framed((-1,)), (0, -1, 2))
        self.assertEqual(framed(BACKWARD), (0, *range(-40, 0), 41))
        self.assertEqual(open_gaps(()), [])
        self.assertEqual(open_gaps((1,)), [])
        self.assertEqual(open_gaps((-1,)), [0, 1])
        self.assertEqual(open_gaps(FORTY), [])
        # Turned about, all are shut but those beside the frame; with a minus each, none is shut.
        self.assertEqual(open_gaps(BACKWARD), [0, 40])
        self.assertEqual(open_gaps(tuple(range(-1, -41, -1))), list(range(41)))
        self.assertEqual(open_gaps((-1, 2)), [0, 1])

    def test_all_tried_rows_against_the_words_of_the_point(self):
        for row in tried_rows():
            frame = plain_frame(row)
            told = framed(row)
            self.assertIs(type(told), tuple)
            self.assertEqual(dict(enumerate(told)), frame)
            gaps = open_gaps(row)
            self.assertIs(type(gaps), list)
            self.assertEqual(gaps, [p for p in range(len(row) + 1) if frame[p + 1] - frame[p] != 1])


class Ties(RefusingCase):
    def test_ordinary_rows(self):
        # 0 3 -1 2 4: the gap behind 0, and the one behind -1; the one ahead of -1, and the one ahead of 2.
        self.assertEqual(tie_gaps((3, -1, 2)), [(0, 2), (1, 2), (3, 0), (1, 3)])
        self.assertEqual(ties_crossed((3, -1, 2)), [0, 1])
        self.assertEqual(tie_gaps((2, 1)), [(0, 1), (2, 0), (1, 2)])
        self.assertEqual(ties_crossed((2, 1)), [])

    def test_edges(self):
        self.assertEqual(tie_gaps(()), [(0, 0)])
        self.assertEqual(tie_gaps((1,)), [(0, 0), (1, 1)])
        self.assertEqual(tie_gaps((-1,)), [(0, 1), (0, 1)])
        self.assertEqual(tie_gaps(FORTY), [(gap, gap) for gap in range(41)])
        self.assertEqual(ties_crossed(()), [])
        self.assertEqual(ties_crossed((1,)), [])
        self.assertEqual(ties_crossed((-1,)), [0, 1])
        self.assertEqual(ties_crossed(FORTY), [])
        self.assertEqual(ties_crossed(BACKWARD), [0, 40])

    def test_all_tried_rows_against_the_words_of_the_point(self):
        for row in tried_rows():
            ties = tie_gaps(row)
            self.assertIs(type(ties), list)
            self.assertTrue(all(type(tie) is tuple for tie in ties))
            self.assertEqual(ties, plain_ties(row))
            crossed = ties_crossed(row)
            self.assertIs(type(crossed), list)
            self.assertEqual(crossed, plain_crossed(row))

    def test_each_gap_is_met_twice_and_a_shut_one_by_both_ends_of_one_tie(self):
        for row in tried_rows():
            ties = tie_gaps(row)
            met = [gap for tie in ties for gap in tie]
            opened = open_gaps(row)
            for gap in range(len(row) + 1):
                self.assertEqual(met.count(gap), 2)
                self.assertEqual((gap, gap) in ties, gap not in opened)


class Rings(RefusingCase):
    def test_ordinary_rows(self):
        self.assertEqual(tie_rings((3, -1, 2)), [(0, 1, 2, 3)])
        self.assertEqual(tie_rings((3, 2, 1)), [(0, 2), (1, 3)])
        self.assertEqual(tie_rings((2, 1, 3, -4)), [(0, 1, 2), (3, 4)])
        self.assertEqual(tie_rings((1, -2, 3)), [(0,), (1, 2), (3,)])

    def test_edges(self):
        self.assertEqual(tie_rings(()), [(0,)])
        self.assertEqual(tie_rings((1,)), [(0,), (1,)])
        self.assertEqual(tie_rings((-1,)), [(0, 1)])
        self.assertEqual(tie_rings(FORTY), [(tie,) for tie in range(41)])
        self.assertEqual(tie_rings(BACKWARD), [(0, 40)] + [(tie,) for tie in range(1, 40)])

    def test_they_are_just_the_sets_of_ties_that_hang_together(self):
        for row in tried_rows():
            rings = tie_rings(row)
            self.assertIs(type(rings), list)
            self.assertTrue(all(type(ring) is tuple for ring in rings))
            self.assertEqual(rings, plain_rings(row), row)

    def test_only_the_plain_row_has_as_many_rings_as_ties(self):
        for row in tried_rows():
            plain = row == tuple(range(1, len(row) + 1))
            self.assertEqual(len(tie_rings(row)) == len(row) + 1, plain)

    def test_a_turn_changes_their_count_by_one_at_most(self):
        rows = small_rows() + nested_rows(16, 10) + nested_rows(40, 3) + great_rows()[:5]
        steps = set()
        for row in rows:
            many = len(tie_rings(row))
            for behind in turned_rows(row).values():
                steps.add(len(tie_rings(behind)) - many)
        self.assertEqual(steps, {-1, 0, 1})


class Kins(RefusingCase):
    def test_ordinary_rows(self):
        # 0 2 1 3, all open; behind it a shut gap.
        self.assertEqual(kin_spans((2, 1, 3)), [(0, 3), (3, 4)])
        self.assertEqual(kin_spans((2, 4, 3, 5, 1)), [(0, 6), (1, 4)])
        # 0 -5 -3 -4 -2 1 6: within the frame a kin that stands with minuses.
        self.assertEqual(kin_spans((-5, -3, -4, -2, 1)), [(0, 6), (1, 4)])
        # An amount has to be the least or greatest at the ends, and with the same sign at both.
        self.assertEqual(kin_spans((-3, 2, 4, 5, 1)), [(0, 6), (3, 4)])
        self.assertEqual(kin_spans((1, -2, 3)), [(0, 1), (1, 3), (3, 4)])

    def test_edges(self):
        self.assertEqual(kin_spans(()), [(0, 1)])
        self.assertEqual(kin_spans((1,)), [(0, 1), (1, 2)])
        self.assertEqual(kin_spans((-1,)), [(0, 2)])
        self.assertEqual(kin_spans(FORTY), [(place, place + 1) for place in range(41)])
        self.assertEqual(kin_spans(BACKWARD), [(0, 41)] + [(place, place + 1) for place in range(1, 40)])
        self.assertEqual(kin_spans(tuple(range(-1, -41, -1))), [(0, 41)])

    def test_made_of_kins_within_kins(self):
        row = block_row(glued(DOUBLE, kin_block((-1,), [(1, glued(KNOT, KNOT))]), KNOT))
        self.assertEqual(row, (2, 4, 3, 5, 1, 6, -13, -11, -12, -10, -8, -9, -7, 14, 16, 15))
        self.assertEqual(kin_spans(row), [(0, 6), (1, 4), (6, 14), (7, 10), (10, 13), (14, 17)])
        belongs = [(0, 6), (1, 4), (1, 4), (1, 4), (0, 6), (0, 6), (6, 14), (7, 10), (7, 10), (7, 10)]
        belongs += [(10, 13), (10, 13), (10, 13), (6, 14), (14, 17), (14, 17), (14, 17)]
        self.assertEqual(gap_kins(row), belongs)

    def test_they_are_just_the_whole_stretches_that_are_not_put_together(self):
        for row in tried_rows():
            kins = self.assert_soon(kin_spans, row)
            self.assertIs(type(kins), list)
            self.assertTrue(all(type(kin) is tuple for kin in kins))
            self.assertEqual(kins, plain_kins(row), row)

    def test_two_lie_apart_or_meet_at_an_end_of_both_or_one_lies_within_the_other(self):
        met = {"apart": 0, "meet": 0, "within": 0}
        for row in tried_rows():
            for (a, b), (c, d) in itertools.combinations(kin_spans(row), 2):
                if b < c:
                    met["apart"] += 1
                elif b == c:
                    met["meet"] += 1
                else:
                    self.assertTrue(a < c and d < b, row)
                    met["within"] += 1
        self.assertGreater(min(met.values()), 100)

    def test_a_gap_belongs_to_the_shortest_kin_in_which_its_places_lie(self):
        for row in tried_rows():
            kins = plain_kins(row)
            belongs = self.assert_soon(gap_kins, row)
            self.assertIs(type(belongs), list)
            self.assertEqual(len(belongs), len(row) + 1)
            for gap, kin in enumerate(belongs):
                self.assertIs(type(kin), tuple)
                around = [(a, b) for a, b in kins if a <= gap and gap + 1 <= b]
                shortest = min(b - a for a, b in around)
                self.assertEqual([(a, b) for a, b in around if b - a == shortest], [kin], row)

    def test_all_gaps_that_a_ring_meets_belong_to_one_kin(self):
        for row in tried_rows():
            ties = tie_gaps(row)
            belongs = gap_kins(row)
            for ring in tie_rings(row):
                self.assertEqual(len({belongs[gap] for tie in ring for gap in ties[tie]}), 1, row)


if __name__ == "__main__":
    unittest.main()
