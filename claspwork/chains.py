"""Rows and rings: how a work is walked through, and the work that some rows and rings make up."""

from claspwork.errors import BadWork
from claspwork.works import MOST_STAVES, each_stave_once, far_end, loose_ends, staves_in, work_by


def rows_in(work):
    rows = []
    for end in loose_ends(work):
        row = walked_from(work, end)
        # Each row is walked from both of its loose ends, but told from the lesser one alone.
        if end < far_end(row[-1]):
            rows.append(row)
    return rows


def rings_in(work):
    seen = {}
    for row in rows_in(work):
        mark_staves(seen, row)
    rings = []
    for stave in range(staves_in(work)):
        if stave not in seen:
            # The foot of the least stave is the least end by which its ring can be walked.
            ring = walked_from(work, 2 * stave)
            mark_staves(seen, ring)
            rings.append(ring)
    return rings


def walked_from(work, start):
    entered = [start]
    leaving = far_end(start)
    while work[leaving] != leaving and work[leaving] != start:
        entered.append(work[leaving])
        leaving = far_end(work[leaving])
    return tuple(entered)


def mark_staves(seen, chain):
    for end in chain:
        seen[end // 2] = True


def work_from(rows, rings):
    entered = entered_ends(list(rows) + list(rings))
    clasps = []
    for row in rows:
        clasps.extend(inner_clasps(row))
    for ring in rings:
        clasps.extend(inner_clasps(ring))
        clasps.append((far_end(ring[-1]), ring[0]))
    return work_by(len(entered), clasps)


def entered_ends(chains):
    entered = []
    for chain in chains:
        if len(chain) == 0:
            raise BadWork("a row or a ring has no staves")
        entered.extend(chain)
    if len(entered) > MOST_STAVES:
        raise BadWork(f"more than {MOST_STAVES} staves")
    if not each_stave_once(entered):
        raise BadWork("the staves from 0 on do not each stand in the rows and rings once")
    return entered


def inner_clasps(chain):
    return [(far_end(chain[place - 1]), chain[place]) for place in range(1, len(chain))]
