"""Two works laid together: the threads of their clasps, and how far the works are apart."""

from claspwork.works import loose_ends, refuse_unlike, staves_in


def threads(one, other):
    refuse_unlike(one, other)
    found = open_threads(one, other)
    seen = {}
    for kind, ends in found:
        mark_ends(seen, ends)
    for end in range(len(one)):
        if end not in seen:
            ring = walked_thread(end, one, other)
            mark_ends(seen, ring)
            found.append(("ring", ring))
    return sorted(found, key=least_end)


def open_threads(one, other):
    found = []
    for end in loose_ends(one):
        ends = walked_thread(end, other, one)
        if len(ends) % 2 == 1:
            found.append(("odd", ends))
        elif end < ends[-1]:
            found.append(("bare", ends))
    for end in loose_ends(other):
        ends = walked_thread(end, one, other)
        # An odd thread is found from its end that is loose in the one work.
        if len(ends) % 2 == 0 and end < ends[-1]:
            found.append(("tied", ends))
    return found


def walked_thread(start, first, second):
    ends = [start]
    onward = first[start]
    while onward != ends[-1] and onward != start:
        ends.append(onward)
        onward = second[onward] if len(ends) % 2 == 0 else first[onward]
    return tuple(ends)


def mark_ends(seen, ends):
    for end in ends:
        seen[end] = True


def least_end(thread):
    return min(thread[1])


def thread_score(one, other):
    kinds = [kind for kind, ends in threads(one, other)]
    return 2 * kinds.count("ring") + kinds.count("odd")


def apart_by(one, other):
    return staves_in(one) - thread_score(one, other) // 2
