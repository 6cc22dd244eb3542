"""Signed rows: their turns, and how one is seen from another one."""

from claspwork.errors import BadRow, BadStretch, Unlike

MOST_NUMBERS = 40


def made_row(numbers):
    many = len(numbers)
    if many > MOST_NUMBERS:
        raise BadRow(f"{many} numbers are more than {MOST_NUMBERS}")
    if sorted([abs(number) for number in numbers]) != list(range(1, many + 1)):
        raise BadRow(f"the amounts from 1 to {many} do not each stand in it once")
    return tuple(numbers)


def plain_row(many):
    return tuple(range(1, many + 1))


def turn_about(row, first, last):
    if not 0 <= first <= last < len(row):
        raise BadStretch(f"no stretch of the row goes from {first} to {last}")
    turned = [-number for number in reversed(row[first:last + 1])]
    return row[:first] + tuple(turned) + row[last + 1:]


def walk_turns(row, turns):
    rows = []
    now = row
    for first, last in turns:
        now = turn_about(now, first, last)
        rows.append(now)
    return rows


def turns_all(many):
    turns = []
    for first in range(many):
        turns.extend([(first, last) for last in range(first, many)])
    return turns


def row_seen(row, other):
    if len(row) != len(other):
        raise Unlike("the two rows have not as many numbers")
    places = {}
    for place, number in enumerate(other, start=1):
        places[abs(number)] = place if number > 0 else -place
    # A minus in both of them is none.
    return tuple([places[abs(number)] if number > 0 else -places[abs(number)] for number in row])
