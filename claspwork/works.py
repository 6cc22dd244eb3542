"""Works: a tuple with a number for each end, the end it is clasped to, or itself where it is loose."""

from claspwork.errors import BadWork, Unlike

MOST_STAVES = 40


def made_work(mates):
    work = tuple(mates)
    ends = len(work)
    if ends % 2 == 1 or ends > 2 * MOST_STAVES:
        raise BadWork(f"no work has {ends} ends")
    for place, mate in enumerate(work):
        # A number below 0 would be taken for a place from behind, so this is asked first.
        if not is_end(mate, ends):
            raise BadWork(f"{mate} at place {place} is no end")
        if work[mate] != place:
            raise BadWork(f"end {place} tells {mate}, which does not tell it again")
    return work


def is_end(number, ends):
    return 0 <= number < ends


def staves_in(work):
    return len(work) // 2


def refuse_unlike(one, other):
    if len(one) != len(other):
        raise Unlike("the two works have not as many staves")


def far_end(end):
    return end ^ 1


def clasps_of(work):
    return [(end, mate) for end, mate in enumerate(work) if end < mate]


def loose_ends(work):
    return [end for end, mate in enumerate(work) if end == mate]


def work_by(staves, clasps):
    mates = list(range(2 * staves))
    clasped = {}
    for one, other in clasps:
        for end in (one, other):
            if not is_end(end, len(mates)):
                raise BadWork(f"{end} is no end of {staves} staves")
            # Asked of each end by itself, so that a pair of one end twice is refused, too.
            if end in clasped:
                raise BadWork(f"end {end} stands twice")
            clasped[end] = True
        mates[one] = other
        mates[other] = one
    return tuple(mates)


def plain_work(staves):
    return work_by(staves, [(2 * stave - 1, 2 * stave) for stave in range(1, staves)])


def each_stave_once(ends):
    # Halving rounds downwards, so an end below 0 gives a stave below 0, which the range has not.
    return sorted([end // 2 for end in ends]) == list(range(len(ends)))


def moved_work(work, ends):
    if len(ends) != staves_in(work) or not each_stave_once(ends):
        raise BadWork(f"{ends} does not tell a new end for each of the staves")
    moved = list(work)
    for end, mate in enumerate(work):
        moved[moved_end(end, ends)] = moved_end(mate, ends)
    return tuple(moved)


def moved_end(end, ends):
    foot = ends[end // 2]
    return foot if end % 2 == 0 else far_end(foot)
