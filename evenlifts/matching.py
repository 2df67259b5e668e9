"""Greatest matchings between two sides, and what they tell of sets without two members near.

A file of the program's own use, not of the interface. near is a dict with, for each
member of both sides, the list of the members of the other side that are near it.
"""

from evenlifts.rings import way_back


def way_on(near, partner, starts):
    """A tuple of members, the first one of starts, the last one without a partner, in turns near ones and partners.

    () if there is none; no member of starts has a partner.
    """
    came = {start: None for start in starts}
    queue = list(starts)
    at = 0
    while at < len(queue):
        here = queue[at]
        at += 1
        for far in near[here]:
            if far in came:
                continue
            came[far] = here
            if far not in partner:
                return tuple(way_back(came, far)[::-1])
            came[partner[far]] = far
            queue.append(partner[far])
    return ()


def put_by(partner, way):
    """Give the members of way new partners: the first one the second one, and so on."""
    for here, far in zip(way[::2], way[1::2]):
        partner[here] = far
        partner[far] = here


def matched(near, side):
    """A dict of partners, both ways: as many couples of near ones as can be."""
    partner = {}
    for start in side:
        put_by(partner, way_on(near, partner, [start]))
    return partner


def spared(near, partner, side):
    """A dict of True for the members of side that some greatest matching leaves alone."""
    ahead = [member for member in side if member not in partner]
    found = {member: True for member in ahead}
    while ahead:
        here = ahead.pop()
        for far in near[here]:
            mate = partner[far]
            if mate not in found:
                found[mate] = True
                ahead.append(mate)
    return found


def most_loose(near, side):
    """How many members a set of no two near ones has at the most."""
    return len(near) - len(matched(near, side)) // 2


def greatest_loose(near, side, across):
    """The list of the members of a greatest set of no two near ones."""
    kept = spared(near, matched(near, side), side)
    barred = {far: True for member in kept for far in near[member]}
    return list(kept) + [member for member in across if member not in barred]


def always_loose(near, side, across):
    """The list of the members that each greatest set of no two near ones has.

    These are the ones that some greatest matching leaves alone: without such a one
    the matching is as great, so a greatest set is less by one. What is near one of
    them is in no greatest set; each other member is in some, and not in some.
    """
    partner = matched(near, side)
    return list(spared(near, partner, side)) + list(spared(near, partner, across))
