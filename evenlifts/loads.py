"""Loads on open pairs: why no passing of these weighs more, so why no plan that is let is cheaper."""

from evenlifts.asked import framed, need_answer
from evenlifts.couples import is_couple
from evenlifts.errors import CanNot, Unfit
from evenlifts.flows import loaded
from evenlifts.heaviest import heaviest_of, most_weight
from evenlifts.pairs import lies_between, pairs_beside
from evenlifts.passings import passes
from evenlifts.prices import is_prices, open_lists, stop_price, weights_in
from evenlifts.rings import two_sides
from evenlifts.shapes import is_number, is_number_pair, need_few, plain


def _priced(frame, one, other, prices):
    """All four as tuples; Unfit if they are not what they ought to be."""
    held, near, far = framed(frame, one, other)
    told = plain(prices)
    if not is_prices(held, told):
        raise Unfit()
    return (held, near, far, told)


def _is_open(frame, one, other, prices, thing):
    """Whether thing is an open pair."""
    if not is_number_pair(thing) or not lies_between(one, other, thing) or stop_price(prices, thing) is None:
        return False
    return not any([stop_price(prices, pair) is None for pair in pairs_beside(frame, one, other, thing)])


def _passes_open(frame, one, other, prices, thing):
    """Whether thing is a PASSING of open pairs alone."""
    return passes(frame, one, other, thing) and all([_is_open(frame, one, other, prices, pair) for pair in thing])


def _weight(prices, passing):
    """What the pairs of passing weigh together."""
    return sum([stop_price(prices, pair) for pair in passing])


def _is_load(frame, one, other, prices, thing):
    """Whether thing is a triple of LOADS, by itself."""
    if not isinstance(thing, tuple) or len(thing) != 3 or not is_number(thing[2]) or thing[2] < 1:
        return False
    near, far, _ = thing
    if not _is_open(frame, one, other, prices, near) or not _is_open(frame, one, other, prices, far):
        return False
    return near == far or is_couple(frame, one, other, (near, far))


def _bears_all(frame, one, other, prices, borne):
    """Whether each open pair bears its weight at least."""
    # One by one, so that of stands that are far apart only as many are looked at as bear something.
    for jack, (here, there) in enumerate(zip(one, other)):
        for level in range(min(here, there) + 1, max(here, there)):
            pair = (jack, level)
            if _is_open(frame, one, other, prices, pair) and borne.get(pair, 0) < stop_price(prices, pair):
                return False
    return True


def _are_loads(frame, one, other, prices, thing):
    """Whether thing are LOADS."""
    if not isinstance(thing, tuple) or not all([_is_load(frame, one, other, prices, own) for own in thing]):
        return False
    if not all([here[:2] < behind[:2] for here, behind in zip(thing, thing[1:])]):
        return False
    borne = {}
    for near, far, number in thing:
        borne[near] = borne.get(near, 0) + number
        if far != near:
            borne[far] = borne.get(far, 0) + number
    return _bears_all(frame, one, other, prices, borne)


def _sum(loads):
    """The numbers of loads, added up."""
    return sum([number for _, _, number in loads])


def open_pairs(frame, one, other, prices):
    """The set of the open pairs."""
    held, near, far, told = _priced(frame, one, other, prices)
    need_few(near, far)
    return tuple(open_lists(held, told, near, far))


def weight_of(frame, one, other, prices, passing):
    """The weight of passing, a PASSING of open pairs alone."""
    held, near, far, told = _priced(frame, one, other, prices)
    passed = plain(passing)
    if not _passes_open(held, near, far, told, passed):
        raise Unfit()
    need_few(near, far)
    return _weight(told, passed)


def heaviest_open(frame, one, other, prices):
    """A heaviest PASSING of open pairs."""
    held, near, far, told = _priced(frame, one, other, prices)
    need_answer(held, near, far)
    lists = open_lists(held, told, near, far)
    return heaviest_of(lists, weights_in(told, lists))


def is_heaviest_open(frame, one, other, prices, thing):
    """Whether thing is a heaviest PASSING of open pairs."""
    held, near, far, told = _priced(frame, one, other, prices)
    need_answer(held, near, far)
    if not _passes_open(held, near, far, told, thing):
        return False
    lists = open_lists(held, told, near, far)
    return _weight(told, thing) == most_weight(lists, weights_in(told, lists))


def is_loads(frame, one, other, prices, thing):
    """Whether thing are LOADS."""
    held, near, far, told = _priced(frame, one, other, prices)
    need_few(near, far)
    return _are_loads(held, near, far, told, thing)


def _burdened(frame, one, other, prices, loads):
    """All five as tuples; Unfit if they are not what they ought to be."""
    held, near, far, told = _priced(frame, one, other, prices)
    borne = plain(loads)
    if not _are_loads(held, near, far, told, borne):
        raise Unfit()
    return (held, near, far, told, borne)


def loads_sum(frame, one, other, prices, loads):
    """The numbers of loads, added up."""
    _, near, far, _, borne = _burdened(frame, one, other, prices, loads)
    need_few(near, far)
    return _sum(borne)


def least_loads(frame, one, other, prices):
    """LOADS with as small a sum as can be."""
    held, near, far, told = _priced(frame, one, other, prices)
    need_few(near, far)
    lists = open_lists(held, told, near, far)
    sides = two_sides(lists)
    if sides is None:
        raise CanNot()
    loads, room = loaded(lists, weights_in(told, lists), sides[0])
    # What a pair cannot share with another one it bears alone.
    alone = [(pair, pair, room[pair]) for pair in lists if room[pair] > 0]
    shared = [(min(couple), max(couple), loads[couple]) for couple in loads if loads[couple] > 0]
    return tuple(sorted(alone + shared))


def loads_agree(frame, one, other, prices, loads, passing):
    """Whether the sum of loads is the weight of passing."""
    held, near, far, told, borne = _burdened(frame, one, other, prices, loads)
    passed = plain(passing)
    if not _passes_open(held, near, far, told, passed):
        raise Unfit()
    need_few(near, far)
    return _sum(borne) == _weight(told, passed)


def _weighed(frame, one, other, prices, pair):
    """The lists of what is beside what of open pairs, their weights, and pair as a tuple."""
    held, near, far, told = _priced(frame, one, other, prices)
    stop = plain(pair)
    if not _is_open(held, near, far, told, stop):
        raise Unfit()
    need_answer(held, near, far)
    lists = open_lists(held, told, near, far)
    return (lists, weights_in(told, lists), stop)


def _changed_by(lists, weights, stop, more):
    """By how much the heaviest PASSING grows if stop weighs more."""
    changed = {pair: weights[pair] + more if pair == stop else weights[pair] for pair in lists}
    return most_weight(lists, changed) - most_weight(lists, weights)


def more_by(frame, one, other, prices, pair):
    """How much more a heaviest PASSING weighs if a stop at pair alone costs 1 more."""
    lists, weights, stop = _weighed(frame, one, other, prices, pair)
    return _changed_by(lists, weights, stop, 1)


def less_by(frame, one, other, prices, pair):
    """How much less a heaviest PASSING weighs if a stop at pair alone costs 1 less."""
    lists, weights, stop = _weighed(frame, one, other, prices, pair)
    if weights[stop] == 0:
        raise CanNot()
    return -_changed_by(lists, weights, stop, -1)
