"""The knots of a signed row, the web in which they hang, and the row's score."""

from claspwork.kins import framed, gap_kins, hung_together, kin_spans, open_gaps, tie_rings


def knots_in(row):
    numbers = framed(row)
    belongs = gap_kins(row)
    minuses = {}
    for gap in open_gaps(row):
        beside = minuses.setdefault(belongs[gap], [])
        beside.extend([numbers[gap] < 0, numbers[gap + 1] < 0])
    return sorted([kin for kin, beside in minuses.items() if all(beside) or not any(beside)])


def web_of(kins):
    # A thing is a kin or a chain, which is the tuple of its kins; each has a list of the things that it is linked to.
    web = {}
    for kin in kins:
        web[kin] = []
    for group in hung_together(kins):
        chain = tuple([kins[place] for place in group])
        linked = list(chain) + shortest_around(chain, kins)
        web[chain] = linked
        for kin in linked:
            web[kin].append(chain)
    return web


def shortest_around(chain, kins):
    around = [kin for kin in kins if kin[0] < chain[0][0] and chain[-1][1] < kin[1]]
    # They lie within one another, so the one that begins last is the shortest.
    return around[-1:]


def thinned_web(row):
    knots = knots_in(row)
    if len(knots) == 0:
        return {}
    web = web_of(kin_spans(row))
    spare = spare_things(web, knots)
    while len(spare) > 0:
        for thing in spare:
            for linked in list(web[thing]):
                web[linked].remove(thing)
            web.pop(thing)
        spare = spare_things(web, knots)
    return web


def spare_things(web, knots):
    return [thing for thing in web if len(web[thing]) <= 1 and thing not in knots]


def ends_of(web):
    # What has at most one link when all is thinned is a knot.
    return sorted([thing for thing in web if len(web[thing]) <= 1])


def leg_from(end, web):
    leg = [end]
    onward = web[end]
    while len(onward) > 0 and len(web[onward[0]]) <= 2:
        thing = onward[0]
        onward = [linked for linked in web[thing] if linked != leg[-1]]
        leg.append(thing)
    return leg


def knot_ends(row):
    return ends_of(thinned_web(row))


def knot_legs(row):
    knots = knots_in(row)
    web = thinned_web(row)
    legs = [leg_from(end, web) for end in ends_of(web)]
    return [len([thing for thing in leg if thing in knots]) for leg in legs]


def knot_cost(row):
    return legs_cost(knot_legs(row))


def legs_cost(legs):
    many = len(legs)
    if many % 2 == 1 and many > 1 and 1 not in legs:
        return many + 1
    return many


def turn_score(row):
    return len(row) + 1 - len(tie_rings(row)) + knot_cost(row)
