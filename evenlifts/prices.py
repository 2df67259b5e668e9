"""Prices of stops, forbidden ones, and the cheapest plans."""

from evenlifts.asked import need_answer
from evenlifts.deeds import is_plan
from evenlifts.errors import CanNot, NoJack, Unfit
from evenlifts.heaviest import heaviest_of
from evenlifts.pairs import all_pairs, beside_lists, left_lists, lies_between, pairs_beside
from evenlifts.passings import passes
from evenlifts.plans import can_walk, straight_plan
from evenlifts.shapes import is_number, is_number_pair, need_jack, plain


def _is_told(thing):
    """Whether thing is a set of pairs of a level and its price, no level twice."""
    if not isinstance(thing, tuple):
        return False
    for pair in thing:
        if not isinstance(pair, tuple) or len(pair) != 2 or not is_number(pair[0]):
            return False
        if pair[1] is not None and (not is_number(pair[1]) or pair[1] < 0):
            return False
    return all([here[0] < behind[0] for here, behind in zip(thing, thing[1:])])


def _is_part(thing):
    """Whether thing is what PRICES tell of one jack."""
    if not isinstance(thing, tuple) or len(thing) != 2:
        return False
    return is_number(thing[0]) and thing[0] >= 1 and _is_told(thing[1])


def is_prices(frame, thing):
    """Whether thing are PRICES of frame."""
    return isinstance(thing, tuple) and len(thing) == frame[0] and all([_is_part(part) for part in thing])


def stop_price(prices, stop):
    """What a stop costs, None if it is forbidden."""
    jack, height = stop
    even, told = prices[jack]
    for level, price in told:
        if level == height:
            return price
    return even


def weights_in(prices, lists):
    """A dict with, for each pair of lists, what a stop there costs."""
    return {pair: stop_price(prices, pair) for pair in lists}


def _need_part(prices, jack):
    """Raise NoJack if prices tell nothing of jack."""
    if not is_number(jack) or not 0 <= jack < len(prices):
        raise NoJack(jack)


def price_at(prices, jack, level):
    """What a stop of jack at level costs, None if it is forbidden."""
    _need_part(prices, jack)
    return stop_price(prices, (jack, level))


def priced(prices, stop, price):
    """PRICES, with this one told for stop."""
    jack, height = stop
    even, told = prices[jack]
    below = [own for own in told if own[0] < height]
    above = [own for own in told if own[0] > height]
    return prices[:jack] + ((even, tuple(below + [(height, price)] + above)),) + prices[jack + 1:]


def with_price(prices, jack, level, price):
    """PRICES, with this one told for level of jack."""
    held = plain(prices)
    _need_part(held, jack)
    return priced(held, (jack, level), price)


def _cost(prices, plan):
    """What the stops of plan cost, None if one is forbidden."""
    costs = [stop_price(prices, stop) for stop in plan]
    return None if None in costs else sum(costs)


def plan_price(frame, prices, one, plan):
    """The price of plan, None if it is not let."""
    held, told, near, deeds = plain((frame, prices, one, plan))
    if not can_walk(held, near, deeds):
        raise Unfit()
    return _cost(told, deeds)


def _forbidden(prices):
    """The list, ascending, of all stops that are forbidden."""
    return [(jack, level) for jack, part in enumerate(prices) for level, price in part[1] if price is None]


def shut_pairs(prices, one, other):
    """The list, ascending, of the PASSABLE pairs that are forbidden."""
    return [stop for stop in _forbidden(prices) if lies_between(one, other, stop)]


def _bars(frame, prices, one, other):
    """The list of all BARS."""
    goals = [(jack, height) for jack, height in _forbidden(prices) if height == other[jack] and height != one[jack]]
    shut = shut_pairs(prices, one, other)
    couples = [(near, far) for near in shut for far in pairs_beside(frame, one, other, near) if near < far]
    return [("goal", stop) for stop in goals] + [("beside", near, far) for near, far in couples if far in shut]


def can_come(frame, prices, one, other):
    """Whether some PLAN that is let leads from one to other."""
    held, told, near, far = plain((frame, prices, one, other))
    return not _bars(held, told, near, far)


def bar(frame, prices, one, other):
    """A BAR: why no PLAN that is let leads from one to other."""
    held, told, near, far = plain((frame, prices, one, other))
    found = _bars(held, told, near, far)
    if not found:
        raise CanNot()
    return found[0]


def is_bar(frame, prices, one, other, thing):
    """Whether thing is a BAR."""
    held, told, near, far = plain((frame, prices, one, other))
    if not isinstance(thing, tuple) or len(thing) < 2 or not all([is_number_pair(stop) for stop in thing[1:]]):
        return False
    return isinstance(thing[0], str) and thing in _bars(held, told, near, far)


def open_lists(frame, prices, one, other):
    """A dict with, for each open pair, the list of the open pairs beside it."""
    lists = beside_lists(frame, one, other)
    shut = shut_pairs(prices, one, other)
    return left_lists(lists, shut + [far for pair in shut for far in lists[pair]])


def _heaviest(frame, prices, one, other):
    """A heaviest PASSING, where some PLAN is let."""
    lists = open_lists(frame, prices, one, other)
    taken = heaviest_of(lists, weights_in(prices, lists))
    return tuple(sorted(taken + tuple(shut_pairs(prices, one, other))))


def _least(prices, one, other, passing):
    """The price of a straight PLAN that passes just the pairs of passing."""
    goals = [(jack, height) for jack, height in enumerate(other) if height != one[jack]]
    passed = {pair: True for pair in passing}
    return _cost(prices, goals + [pair for pair in all_pairs(one, other) if pair not in passed])


def _best(frame, prices, one, other):
    """The price of a cheapest PLAN, where some PLAN is let."""
    return _least(prices, one, other, _heaviest(frame, prices, one, other))


def _answered(frame, prices, one, other):
    """All four as tuples; TooMany if no heaviest PASSING is told for them."""
    held, told, near, far = plain((frame, prices, one, other))
    need_answer(held, near, far)
    return (held, told, near, far)


def _let(frame, prices, one, other):
    """As _answered, and CanNot if no PLAN is let."""
    held, told, near, far = _answered(frame, prices, one, other)
    if _bars(held, told, near, far):
        raise CanNot()
    return (held, told, near, far)


def cheapest(frame, prices, one, other):
    """The price of a cheapest PLAN from one to other."""
    held, told, near, far = _let(frame, prices, one, other)
    return _best(held, told, near, far)


def cheap_plan(frame, prices, one, other):
    """A cheapest PLAN from one to other."""
    held, told, near, far = _let(frame, prices, one, other)
    return straight_plan(held, near, far, _heaviest(held, told, near, far))


def heaviest_passing(frame, prices, one, other):
    """A heaviest PASSING."""
    held, told, near, far = _let(frame, prices, one, other)
    return _heaviest(held, told, near, far)


def is_cheap_plan(frame, prices, one, other, thing):
    """Whether thing is a cheapest PLAN from one to other."""
    held, told, near, far = _answered(frame, prices, one, other)
    if _bars(held, told, near, far) or not is_plan(held, near, far, thing):
        return False
    return _cost(told, thing) == _best(held, told, near, far)


def is_heaviest(frame, prices, one, other, thing):
    """Whether thing is a heaviest PASSING."""
    held, told, near, far = _answered(frame, prices, one, other)
    if _bars(held, told, near, far) or not passes(held, near, far, thing):
        return False
    if not all([pair in thing for pair in shut_pairs(told, near, far)]):
        return False
    # Of passings with all shut stops, the heavier one leaves the cheaper stops.
    return _least(told, near, far, thing) == _best(held, told, near, far)


def kept_to(frame, prices, one, other, jack, level):
    """The greatest price of this stop alone with which some cheapest PLAN stops there, None if with each."""
    held, told, near, far = plain((frame, prices, one, other))
    need_jack(held, jack)
    need_answer(held, near, far)
    pair = (jack, level)
    free = priced(told, pair, 0)
    if not lies_between(near, far, pair) or _bars(held, free, near, far):
        raise CanNot()
    passed = priced(told, pair, None)
    if _bars(held, passed, near, far):
        return None
    # Free, the stop is kept by some cheapest PLAN: so this is what going past it costs more.
    return _best(held, passed, near, far) - _best(held, free, near, far)
