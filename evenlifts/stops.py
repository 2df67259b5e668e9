"""Stops of an inspector: what it costs to come by stands on the way."""

from evenlifts.asked import need_answer, need_greatest
from evenlifts.couples import are_couples, most_couples
from evenlifts.deeds import deeds_here, is_plan, moved_by, walked
from evenlifts.errors import CanNot, TooMany, Unfit
from evenlifts.fewest import fewest_deeds, plan_of_fewest
from evenlifts.frames import is_two_coloured
from evenlifts.heaviest import always_of, greatest_of
from evenlifts.pairs import all_pairs, beside_lists, left_lists, lies_between
from evenlifts.passings import passes
from evenlifts.plans import straight_plan
from evenlifts.shapes import need_few, need_jack, plain
from evenlifts.stands import is_between

_MOST_STANDS = 500


def _legs(one, middles, other):
    """The list of each two STANDS side by side on the way from one by middles to other."""
    row = (one,) + middles + (other,)
    return list(zip(row, row[1:]))


def _need_near(one, middles, other):
    """Raise TooMany if two side by side on the way are too far apart."""
    for near, far in _legs(one, middles, other):
        need_few(near, far)


def _cut(one, other, middle):
    """The set of the PASSABLE pairs of which middle has the level."""
    return tuple([(jack, level) for jack, level in enumerate(middle) if lies_between(one, other, (jack, level))])


def _cut_by(frame, one, other, middle):
    """All four as tuples; Unfit if middle is not between, TooMany if it is too far off."""
    held, near, far, stop = plain((frame, one, other, middle))
    if not is_between(held, near, far, stop):
        raise Unfit()
    _need_near(near, (stop,), far)
    return (held, near, far, stop)


def cut_pairs(frame, one, other, middle):
    """The cut of middle: the set of the PASSABLE pairs of which it has the level."""
    _, near, far, stop = _cut_by(frame, one, other, middle)
    return _cut(near, far, stop)


def _visited(frame, one, other, middles):
    """All four as tuples; TooMany if no shortest PLANS are told for them."""
    held, near, far, stops = plain((frame, one, other, middles))
    _need_near(near, stops, far)
    need_greatest(held)
    return (held, near, far, stops)


def _many_by(frame, one, other, middles):
    """How many DEEDS a PLAN that comes by middles has at the fewest."""
    return sum([fewest_deeds(frame, near, far) for near, far in _legs(one, middles, other)])


def fewest_by(frame, one, other, middles):
    """How many DEEDS a PLAN that comes by middles has at the fewest."""
    held, near, far, stops = _visited(frame, one, other, middles)
    return _many_by(held, near, far, stops)


def stop_cost(frame, one, other, middles):
    """How many DEEDS more a PLAN has that comes by middles than one that need not."""
    held, near, far, stops = _visited(frame, one, other, middles)
    return _many_by(held, near, far, stops) - fewest_deeds(held, near, far)


def visit_plan(frame, one, other, middles):
    """A PLAN that comes by middles, of as few DEEDS as can be."""
    held, near, far, stops = _visited(frame, one, other, middles)
    return tuple([deed for here, there in _legs(near, stops, far) for deed in plan_of_fewest(held, here, there)])


def _comes_by(stands, middles):
    """Whether middles stand among stands, in their order, maybe some at one place."""
    at = 0
    for stand in stands:
        while at < len(middles) and middles[at] == stand:
            at += 1
    return at == len(middles)


def is_visit_plan(frame, one, other, middles, thing):
    """Whether thing is a PLAN that comes by middles, of as few DEEDS as can be."""
    held, near, far, stops = _visited(frame, one, other, middles)
    if not is_plan(held, near, far, thing) or len(thing) != _many_by(held, near, far, stops):
        return False
    return _comes_by(walked(held, near, thing), stops)


def _closer_ones(frame, stand, other):
    """The list of what comes of the DEEDS that can be done at stand, come closer to other and do not go beyond."""
    found = []
    for jack, height in deeds_here(frame, stand):
        if stand[jack] < height <= other[jack] or stand[jack] > height >= other[jack]:
            found.append(moved_by(stand, (jack, height)))
    return found


def _ways_on(frame, one, other):
    """A dict with, for each STAND between one and other, how many DEEDS it takes from one; TooMany for too many."""
    found = {one: 0}
    edge = [one]
    # Shortest PLANS are straight: so each STAND between is come to by way of such alone.
    while edge:
        behind = {moved: True for stand in edge for moved in _closer_ones(frame, stand, other) if moved not in found}
        many = found[edge[0]] + 1
        for moved in behind:
            found[moved] = many
        if len(found) > _MOST_STANDS:
            raise TooMany()
        edge = list(behind)
    return found


def free_stops(frame, one, other):
    """The list, ascending, of the STANDS between that cost nothing."""
    held, near, far, _ = _visited(frame, one, other, ())
    ways = _ways_on(held, near, far)
    back = _ways_on(held, far, near)
    return sorted([stand for stand in ways if ways[stand] + back[stand] == ways[far]])


def _halted(frame, one, other, jack, height):
    """The first three as tuples; the errors of what stops jack at height."""
    held, near, far = plain((frame, one, other))
    need_jack(held, jack)
    if not min(near[jack], far[jack]) <= height <= max(near[jack], far[jack]):
        raise Unfit()
    need_answer(held, near, far)
    return (held, near, far)


def _jack_cost(frame, one, other, pair):
    """What the cheapest STAND between with pair's jack at its level costs."""
    return 1 if pair in always_of(beside_lists(frame, one, other)) else 0


def jack_stop(frame, one, other, jack, height):
    """What the cheapest STAND between with jack at height costs."""
    held, near, far = _halted(frame, one, other, jack, height)
    return _jack_cost(held, near, far, (jack, height))


def stand_to_stop(frame, one, other, jack, height):
    """A STAND between with jack at height that costs least."""
    held, near, far = _halted(frame, one, other, jack, height)
    if height == near[jack]:
        return near
    if height == far[jack]:
        return far
    stop = (jack, height)
    deeds = straight_plan(held, near, far, greatest_of(left_lists(beside_lists(held, near, far), [stop])))
    return walked(held, near, deeds)[deeds.index(stop) + 1]


def is_stand_to_stop(frame, one, other, jack, height, thing):
    """Whether thing is a STAND between with jack at height that costs least."""
    held, near, far = _halted(frame, one, other, jack, height)
    if not is_between(held, near, far, thing) or thing[jack] != height:
        return False
    more = _many_by(held, near, far, (thing,)) - fewest_deeds(held, near, far)
    return more == _jack_cost(held, near, far, (jack, height))


def stop_paper(frame, one, other, middle):
    """A STOP PAPER of middle: PASSINGS and COUPLES that show what it costs."""
    held, near, far, stop = _cut_by(frame, one, other, middle)
    if not is_two_coloured(held):
        raise CanNot()
    lists = beside_lists(held, near, far)
    left = left_lists(lists, _cut(near, far, stop))
    return (greatest_of(lists), most_couples(lists), greatest_of(left), most_couples(left))


def is_stop_paper(frame, one, other, middle, thing):
    """Whether thing is a STOP PAPER of middle."""
    held, near, far, stop = _cut_by(frame, one, other, middle)
    if not isinstance(thing, tuple) or len(thing) != 4:
        return False
    full, couples, bare, rest = thing
    if not all([passes(held, near, far, own) for own in (full, bare)]):
        return False
    if not all([are_couples(held, near, far, own) for own in (couples, rest)]):
        return False
    cut = _cut(near, far, stop)
    kept = list(bare) + [pair for couple in rest for pair in couple]
    if any([own in kept for own in cut]):
        return False
    many = len(all_pairs(near, far))
    return len(full) == many - len(couples) and len(bare) == many - len(cut) - len(rest)
