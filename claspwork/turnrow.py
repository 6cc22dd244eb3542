"""The fewest turns that lead a signed row to the plain one, and papers that tell a row's score."""

from claspwork.kins import tie_rings
from claspwork.knots import knot_legs, knots_in, legs_cost, turn_score
from claspwork.turns import row_seen, turn_about, turns_all


def good_turns(row):
    less = turn_score(row) - 1
    return [turn for turn in turns_all(len(row)) if score_behind(row, turn) == less]


def score_behind(row, turn):
    return turn_score(turn_about(row, turn[0], turn[1]))


def fewest_turns(row):
    turns = []
    now = row
    left = turn_score(row)
    while left > 0:
        left -= 1
        for first, last in turns_all(len(row)):
            behind = turn_about(now, first, last)
            # The first that is found is the least good one; the others are not tried.
            if turn_score(behind) == left:
                turns.append((first, last))
                now = behind
                break
    return turns


def turns_between(row, other):
    return fewest_turns(row_seen(row, other))


def turn_paper(row):
    return (len(row) + 1, tuple(tie_rings(row)), tuple(knots_in(row)), tuple(knot_legs(row)))


def paper_score(paper):
    return paper[0] - len(paper[1]) + legs_cost(paper[3])


def paper_good(row, paper):
    return paper == turn_paper(row)
