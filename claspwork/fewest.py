"""The fewest deeds that lead one work to another, and papers that show that no fewer do."""

from claspwork.deeds import fits_work, least_pair, reclasped
from claspwork.errors import BadDeed, NoPaper
from claspwork.journal import works_along
from claspwork.laid import apart_by, threads


def nearer_deeds(one, other):
    laid = threads(one, other)
    bare = ends_in(laid, "bare")
    tied = ends_in(laid, "tied")
    pairs = crossing_pairs(bare, tied)
    for kind, ends in laid:
        pairs.extend(splitting_pairs(ends))
    # A tied thread falls into two odd ones wherever a clasp of it is opened.
    pairs.extend([(end, end) for end in tied])
    # Clasps that are there are among the pairs, and deeds by both of the pairs that do them.
    return sorted([pair for pair in pairs if fits_work(one, pair) and least_pair(one, pair) == pair])


def ends_in(laid, kind):
    found = []
    for told, ends in laid:
        if told == kind:
            found.extend(ends)
    return found


def splitting_pairs(ends):
    # Two ends of a thread with an even count of ends between close a ring, they or the two that they free, and
    # what is left of the thread keeps its kind; any other two only turn a part of the thread about.
    pairs = []
    for place, end in enumerate(ends):
        pairs.extend([ordered_pair(end, behind) for behind in ends[place + 1::2]])
    return pairs


def crossing_pairs(bare, tied):
    # An end of a bare thread clasped to one of a tied thread makes two odd threads of these two.
    pairs = []
    for end in bare:
        pairs.extend([ordered_pair(end, crossed) for crossed in tied])
    return pairs


def ordered_pair(end, mate):
    return (min(end, mate), max(end, mate))


def fewest_deeds(one, other):
    deeds = []
    now = one
    nearer = nearer_deeds(now, other)
    # There is none just where the two are the same.
    while len(nearer) > 0:
        deeds.append(nearer[0])
        now = reclasped(now, nearer[0])
        nearer = nearer_deeds(now, other)
    return deeds


def paper_for(one, other):
    return (tuple(threads(one, other)), tuple(fewest_deeds(one, other)))


def judged_paper(one, other, paper):
    deeds = paper[1]
    if paper[0] != tuple(threads(one, other)):
        raise NoPaper("the threads are not those of the two works")
    if len(deeds) != apart_by(one, other):
        raise NoPaper("there are not as many deeds as the works are apart")
    if not leads_to(one, deeds, other):
        raise NoPaper("the deeds do not lead the one work to the other")
    return len(deeds)


def leads_to(one, deeds, other):
    try:
        return works_along(one, deeds)[-1] == other
    except BadDeed:
        return False
