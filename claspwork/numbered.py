"""The fewest rows of deeds numbered in ascending order, from 0 on."""

from claspwork.counted import refuse_uncounted, rows_between
from claspwork.deeds import reclasped
from claspwork.errors import BadRow, NoSuch
from claspwork.fewest import nearer_deeds


def row_numbered(one, other, number):
    refuse_uncounted(one, other)
    counts = {}
    many = rows_between(one, other, counts)
    if not 0 <= number < many:
        raise NoSuch(f"there are {many} fewest rows, and none has the number {number}")
    row = []
    now = one
    left = number
    while now != other:
        for deed, behind, rows in ways_on(now, other, counts):
            if left < rows:
                row.append(deed)
                now = behind
                break
            left -= rows
    return row


def ways_on(now, other, counts):
    # Each nearer deed, the work behind it, and how many fewest rows begin with it.
    ways = []
    for deed in nearer_deeds(now, other):
        behind = reclasped(now, deed)
        ways.append((deed, behind, rows_between(behind, other, counts)))
    return ways


def number_of_row(one, other, deeds):
    refuse_uncounted(one, other)
    counts = {}
    number = 0
    now = one
    for low, high in deeds:
        ways = ways_on(now, other, counts)
        taken = [behind for deed, behind, rows in ways if deed == (low, high)]
        if len(taken) == 0:
            raise BadRow(f"{low} and {high} tell no nearer deed by its least pair")
        number += sum([rows for deed, behind, rows in ways if deed < (low, high)])
        now = taken[0]
    if now != other:
        raise BadRow("the row ends ahead of the other work")
    return number
