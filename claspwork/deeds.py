"""Deeds: clasps that are opened or clasped otherwise, each told by a pair of ends."""

from claspwork.chains import rings_in, rows_in
from claspwork.errors import BadDeed
from claspwork.works import clasps_of, refuse_unlike


def fits_work(work, deed):
    low = deed[0]
    high = deed[1]
    if not 0 <= low <= high < len(work):
        return False
    # An opening needs a clasp; a clasping must not find its own clasp there.
    return work[low] != high


def refuse_misfit(work, deed):
    if not fits_work(work, deed):
        raise BadDeed(f"the deed {deed} does not fit the work")


def reclasped(work, deed):
    refuse_misfit(work, deed)
    mates = list(work)
    freed = freed_ends(work, deed)
    if len(freed) > 0:
        # A single freed end is "clasped" to itself here, so loose; so are both ends of an opened clasp.
        clasp_ends(mates, freed[0], freed[-1])
    clasp_ends(mates, deed[0], deed[1])
    return tuple(mates)


def freed_ends(work, deed):
    return [work[end] for end in deed if work[end] != end]


def clasp_ends(mates, one, other):
    mates[one] = other
    mates[other] = one


def told_deed(work, deed):
    refuse_misfit(work, deed)
    return least_pair(work, deed)


def least_pair(work, deed):
    pair = (deed[0], deed[1])
    freed = freed_ends(work, deed)
    if len(freed) < 2:
        return pair
    # What the two freed ends become is what the pair becomes: the same deed, told from its other side.
    return min(pair, (min(freed), max(freed)))


def all_deeds(work):
    found = []
    for low in range(len(work)):
        for high in range(low, len(work)):
            deed = (low, high)
            if fits_work(work, deed) and least_pair(work, deed) == deed:
                found.append(deed)
    return found


def deed_to(work, other):
    refuse_unlike(work, other)
    gained = clasps_gained(work, other)
    lost = clasps_gained(other, work)
    # A deed that gains clasps is told by the least of them, one that gains none opens the one it loses.
    tried = gained + [(low, low) for low, high in lost]
    if len(tried) == 0 or reclasped(work, tried[0]) != other:
        return None
    return tried[0]


def clasps_gained(work, other):
    return [clasp for clasp in clasps_of(other) if work[clasp[0]] != clasp[1]]


def deed_back(work, deed):
    return deed_to(reclasped(work, deed), work)


def deed_kind(work, deed):
    behind = reclasped(work, deed)
    low = deed[0]
    high = deed[1]
    rings = rings_in(work)
    chains = rows_in(work) + rings
    low_chain = chain_with(chains, low)
    high_chain = chain_with(chains, high)
    if low == high:
        return "opened" if low_chain in rings else "cut"
    if work[low] == low and work[high] == high:
        return "closed" if low_chain == high_chain else "joined"
    if low_chain == high_chain:
        return "turned" if len(rows_in(behind) + rings_in(behind)) == len(chains) else "parted"
    return "taken" if low_chain in rings or high_chain in rings else "crossed"


def chain_with(chains, end):
    stave = end // 2
    found = [chain for chain in chains if 2 * stave in chain or 2 * stave + 1 in chain]
    return found[0]
