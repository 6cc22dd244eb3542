"""The fewest rows of deeds counted, and the works through which they lead."""

from claspwork.deeds import reclasped
from claspwork.errors import TooMany
from claspwork.fewest import nearer_deeds
from claspwork.laid import apart_by, threads

MOST_APART = 12
MOST_APART_CROSSING = 6
MOST_APART_LISTED = 5


def fewest_many(one, other):
    refuse_uncounted(one, other)
    return rows_between(one, other, {})


def refuse_uncounted(one, other):
    crossing = has_both(threads(one, other))
    refuse_beyond(MOST_APART_CROSSING if crossing else MOST_APART, one, other)


def refuse_beyond(most, one, other):
    apart = apart_by(one, other)
    if apart > most:
        raise TooMany(f"the works are {apart} apart, more than {most}")


def has_both(laid):
    kinds = [kind for kind, ends in laid]
    return "bare" in kinds and "tied" in kinds


def rows_between(one, other, counts):
    # How many rows there are hangs on the kinds and lengths of the threads alone, so `counts` keeps it by these.
    laid = threads(one, other)
    if not has_both(laid):
        return shuffled_rows([lacked_deeds(thread) for thread in laid])
    shape = tuple(sorted([(kind, len(ends)) for kind, ends in laid]))
    if shape not in counts:
        behind = [reclasped(one, deed) for deed in nearer_deeds(one, other)]
        counts[shape] = sum([rows_between(work, other, counts) for work in behind])
    return counts[shape]


def lacked_deeds(thread):
    half = len(thread[1]) // 2
    return half - 1 if thread[0] == "ring" else half


def shuffled_rows(lacks):
    rows = 1
    shuffled = 0
    for lack in lacks:
        shuffled += lack
        rows *= choices(shuffled, lack) * own_rows(lack)
    return rows


def choices(many, chosen):
    found = 1
    for step in range(1, chosen + 1):
        # Each of these is a count of choices itself, so nothing is lost in dividing.
        found = found * (many - chosen + step) // step
    return found


def own_rows(lack):
    rows = 1
    for step in range(lack - 1):
        rows *= lack + 1
    return rows


def on_way(one, middle, other):
    return apart_by(one, middle) + apart_by(middle, other) == apart_by(one, other)


def works_on_way(one, other):
    refuse_beyond(MOST_APART_LISTED, one, other)
    found = {one: True}
    fresh = [one]
    while len(fresh) > 0:
        onward = {}
        for work in fresh:
            for deed in nearer_deeds(work, other):
                onward[reclasped(work, deed)] = True
        found.update(onward)
        fresh = list(onward)
    return sorted(found)
