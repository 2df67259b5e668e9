"""Passable pairs as they are, however far two stands are apart.

A file of the program's own use, not of the interface. Nothing here raises TooMany: that
is asked for what is handed in alone, and a point may look at stands farther apart.
"""

from evenlifts.shapes import near_jacks, near_lists


def levels_of(one, other, jack):
    """The list, ascending, of the levels strictly between both heights of jack."""
    return list(range(min(one[jack], other[jack]) + 1, max(one[jack], other[jack])))


def all_pairs(one, other):
    """The list, ascending, of all PASSABLE pairs."""
    return [(jack, level) for jack in range(len(one)) for level in levels_of(one, other, jack)]


def lies_between(one, other, pair):
    """Whether a pair of numbers is PASSABLE."""
    jack, level = pair
    if not 0 <= jack < len(one):
        return False
    return min(one[jack], other[jack]) < level < max(one[jack], other[jack])


def _pairs_round(near, one, other, pair):
    """The list, ascending, of the PASSABLE pairs beside pair, near the neighbours of its jack."""
    jack, level = pair
    found = [(far, level) for far in near] + [(jack, level - 1), (jack, level + 1)]
    return [own for own in sorted(found) if lies_between(one, other, own)]


def pairs_beside(frame, one, other, pair):
    """The list, ascending, of the PASSABLE pairs beside pair, whether that is one or not."""
    return _pairs_round(near_jacks(frame, pair[0]), one, other, pair)


def beside_lists(frame, one, other):
    """A dict with, for each PASSABLE pair, the list, ascending, of those beside it."""
    near = near_lists(frame)
    return {pair: _pairs_round(near[pair[0]], one, other, pair) for pair in all_pairs(one, other)}


def left_lists(lists, barred):
    """lists without the pairs of barred, a list or a dict."""
    gone = {pair: True for pair in barred}
    return {pair: [own for own in lists[pair] if own not in gone] for pair in lists if pair not in gone}


def couples_of(lists):
    """The list, ascending, of all couples of pairs that are beside one another."""
    return [(near, far) for near in lists for far in lists[near] if near < far]
