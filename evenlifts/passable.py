"""Passable pairs: the levels strictly between both heights of a jack."""

from evenlifts.errors import Unfit
from evenlifts.frames import colours
from evenlifts.pairs import all_pairs, beside_lists, couples_of, levels_of, lies_between, pairs_beside
from evenlifts.shapes import is_number_pair, near_lists, need_few, need_jack, plain


def levels_between(frame, one, other, jack):
    """The set of the levels of jack's PASSABLE pairs."""
    need_jack(frame, jack)
    need_few(one, other)
    return tuple(levels_of(one, other, jack))


def passable(frame, one, other):
    """The set of all PASSABLE pairs."""
    need_few(one, other)
    return tuple(all_pairs(one, other))


def is_passable(frame, one, other, thing):
    """Whether thing is a PASSABLE pair."""
    return is_number_pair(thing) and lies_between(one, other, thing)


def _need_passable(one, other, pair):
    """Raise Unfit if pair is not PASSABLE."""
    if not is_number_pair(pair) or not lies_between(one, other, pair):
        raise Unfit()


def are_beside(frame, one, other, near, far):
    """Whether near and far are beside one another."""
    here, there = plain((near, far))
    _need_passable(one, other, here)
    _need_passable(one, other, there)
    return there in pairs_beside(frame, one, other, here)


def beside(frame, one, other, pair):
    """The set of the PASSABLE pairs that are beside pair."""
    here = plain(pair)
    _need_passable(one, other, here)
    return tuple(pairs_beside(frame, one, other, here))


def all_beside(frame, one, other):
    """The set of all COUPLES that there are."""
    need_few(one, other)
    return tuple(couples_of(beside_lists(frame, one, other)))


def _lot_at(lists, pair):
    """A dict of True for pair and all that it is held together with."""
    found = {pair: True}
    ahead = [pair]
    while ahead:
        here = ahead.pop()
        for far in lists[here]:
            if far not in found:
                found[far] = True
                ahead.append(far)
    return found


def joined_lots(frame, one, other):
    """The list, ascending, of the sets of PASSABLE pairs that are held together."""
    need_few(one, other)
    lists = beside_lists(frame, one, other)
    told = {}
    lots = []
    for pair in lists:
        if pair not in told:
            lot = _lot_at(lists, pair)
            for own in lot:
                told[own] = True
            lots.append(tuple(sorted(lot)))
    # Each was come to by its least pair, and pairs ascend: so lots do.
    return lots


def layers(frame, one, other):
    """The list of pairs (level, set of the jacks that are PASSABLE at it), levels ascending."""
    found = {}
    for jack, level in passable(frame, one, other):
        found.setdefault(level, []).append(jack)
    return [(level, tuple(found[level])) for level in sorted(found)]


def sides(frame, one, other):
    """The pair of the PASSABLE pairs whose jack's colour and level add up to an even number, and of the others."""
    pairs = passable(frame, one, other)
    colour = colours(frame)
    even = [(jack, level) for jack, level in pairs if (colour[jack] + level) % 2 == 0]
    odd = [(jack, level) for jack, level in pairs if (colour[jack] + level) % 2 == 1]
    return (tuple(even), tuple(odd))


def _beams_to(near, goals):
    """For each jack the fewest beams that lead from it to one of goals, None if none do."""
    steps = [None for _ in near]
    for goal in goals:
        steps[goal] = 0
    queue = list(goals)
    at = 0
    while at < len(queue):
        jack = queue[at]
        for far in near[jack]:
            if steps[far] is None:
                steps[far] = steps[jack] + 1
                queue.append(far)
        at += 1
    return steps


def stand_past(frame, one, other, pair):
    """HEIGHTS, as near to one as can be, at which pair's jack can go past pair's level."""
    here = plain(pair)
    _need_passable(one, other, here)
    jack, level = here
    near = near_lists(frame)
    steps = _beams_to(near, near[jack])
    if one[jack] < other[jack]:
        told = [height if beams is None else max(height, level - beams) for height, beams in zip(one, steps)]
    else:
        told = [height if beams is None else min(height, level + beams) for height, beams in zip(one, steps)]
    return tuple(told)
