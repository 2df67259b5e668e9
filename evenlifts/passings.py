"""Passings: sets of passable pairs, no two of them beside one another."""

from evenlifts.errors import CanNot, TooMany, Unfit
from evenlifts.frames import is_frame, is_two_coloured
from evenlifts.matching import always_loose, greatest_loose, most_loose
from evenlifts.passable import beside_lists, is_passable, layers, pairs_beside, passable, sides
from evenlifts.shapes import is_number, is_number_pair, is_pair_set, near_lists, need_few, plain
from evenlifts.stands import is_stand
from evenlifts.tiers import greatest_taken, greatest_told, how_many, most_at, tiers_of, totals

_MOST_JACKS = 8
_MOST_TOLD = 2000


def _framed(frame, one, other):
    """frame, one and other as tuples; Unfit if they are not what they ought to be."""
    held, near, far = plain((frame, one, other))
    if not is_frame(held) or not is_stand(held, near) or not is_stand(held, far):
        raise Unfit()
    return (held, near, far)


def _bounded(frame, one, other):
    """As _framed, and TooMany if one and other are too far apart."""
    held, near, far = _framed(frame, one, other)
    need_few(near, far)
    return (held, near, far)


def _counted(frame, one, other):
    """As _bounded, and TooMany for more jacks than are gone through level by level."""
    held, near, far = _bounded(frame, one, other)
    if held[0] > _MOST_JACKS:
        raise TooMany()
    return (held, near, far)


def need_greatest(frame):
    """Raise TooMany if no greatest PASSING is told for frame."""
    if frame[0] > _MOST_JACKS and not is_two_coloured(frame):
        raise TooMany()


def _answered(frame, one, other):
    """As _bounded, and TooMany if no greatest PASSING is told for frame."""
    held, near, far = _bounded(frame, one, other)
    need_greatest(held)
    return (held, near, far)


def _passes(frame, one, other, thing):
    """Whether thing is a PASSING."""
    if not is_pair_set(thing) or not all([is_passable(frame, one, other, pair) for pair in thing]):
        return False
    taken = {pair: True for pair in thing}
    return not any([far in taken for pair in thing for far in pairs_beside(frame, one, other, pair)])


def _passing_of(frame, one, other, passing):
    """passing as tuples; Unfit if it is no PASSING."""
    told = plain(passing)
    if not _passes(frame, one, other, told):
        raise Unfit()
    return told


def _tiers(frame, one, other):
    """The tiers of the PASSABLE pairs."""
    return tiers_of(near_lists(frame), layers(frame, one, other))


def is_passing(frame, one, other, thing):
    """Whether thing is a PASSING."""
    held, near, far = _bounded(frame, one, other)
    return _passes(held, near, far, thing)


def lots_at(frame, one, other, level):
    """The list, ascending, of the sets of jacks that a PASSING may have at level."""
    held, near, far = _framed(frame, one, other)
    if not is_number(level):
        raise Unfit()
    need_few(near, far)
    lists = near_lists(held)
    lots = [()]
    for jack in range(held[0]):
        if is_passable(held, near, far, (jack, level)):
            lots = lots + [lot + (jack,) for lot in lots if not any([own in lists[jack] for own in lot])]
    return sorted(lots)


def barred_by(frame, one, other, passing):
    """The set of the PASSABLE pairs that are beside one of passing."""
    held, near, far = _framed(frame, one, other)
    told = _passing_of(held, near, far, passing)
    need_few(near, far)
    barred = {own: True for pair in told for own in pairs_beside(held, near, far, pair)}
    return tuple(sorted(barred))


def filled_up(frame, one, other, passing):
    """The PASSING that comes of passing when the least pair that can be put in is, till there is none."""
    held, near, far = _framed(frame, one, other)
    told = _passing_of(held, near, far, passing)
    need_few(near, far)
    lists = beside_lists(held, near, far)
    taken = {pair: True for pair in told}
    # A pair that cannot be put in never can be later: so once through is enough.
    for pair in lists:
        if not any([own in taken for own in lists[pair]]):
            taken[pair] = True
    return tuple(sorted(taken))


def all_passings(frame, one, other):
    """The list, ascending, of all PASSINGS."""
    held, near, far = _counted(frame, one, other)
    lists = beside_lists(held, near, far)
    found = [()]
    for pair in lists:
        barred = lists[pair]
        found = found + [own + (pair,) for own in found if not any([taken in barred for taken in own])]
        if len(found) > _MOST_TOLD:
            raise TooMany()
    return sorted(found)


def how_many_passings(frame, one, other):
    """How many PASSINGS there are."""
    held, near, far = _counted(frame, one, other)
    return how_many(_tiers(held, near, far))


def _most(frame, one, other):
    """How many pairs a greatest PASSING has."""
    if is_two_coloured(frame):
        return most_loose(beside_lists(frame, one, other), sides(frame, one, other)[0])
    return greatest_told(_tiers(frame, one, other))[0]


def most_passed(frame, one, other):
    """How many pairs a greatest PASSING has."""
    held, near, far = _answered(frame, one, other)
    return _most(held, near, far)


def greatest_passing(frame, one, other):
    """A greatest PASSING."""
    held, near, far = _answered(frame, one, other)
    if is_two_coloured(held):
        even, odd = sides(held, near, far)
        return tuple(sorted(greatest_loose(beside_lists(held, near, far), even, odd)))
    return tuple(sorted(greatest_taken(_tiers(held, near, far))))


def is_greatest(frame, one, other, thing):
    """Whether thing is a greatest PASSING."""
    held, near, far = _answered(frame, one, other)
    return _passes(held, near, far, thing) and len(thing) == _most(held, near, far)


def how_many_greatest(frame, one, other):
    """How many greatest PASSINGS there are."""
    held, near, far = _counted(frame, one, other)
    return greatest_told(_tiers(held, near, far))[1]


def _always(frame, one, other):
    """The list of the PASSABLE pairs that each greatest PASSING has, in a two-coloured frame."""
    even, odd = sides(frame, one, other)
    return always_loose(beside_lists(frame, one, other), even, odd)


def _swayed(frame, one, other, taken):
    """The set of the PASSABLE pairs with which (1), without which (0) no greatest PASSING is told."""
    found = totals(_tiers(frame, one, other))
    most = _most(frame, one, other)
    return tuple([pair for pair in passable(frame, one, other) if most_at(found, pair, taken) < most])


def always_passed(frame, one, other):
    """The set of the PASSABLE pairs that each greatest PASSING has."""
    held, near, far = _answered(frame, one, other)
    if is_two_coloured(held):
        return tuple(sorted(_always(held, near, far)))
    return _swayed(held, near, far, 0)


def never_passed(frame, one, other):
    """The set of the PASSABLE pairs that no greatest PASSING has."""
    held, near, far = _answered(frame, one, other)
    if is_two_coloured(held):
        barred = {own: True for pair in _always(held, near, far) for own in pairs_beside(held, near, far, pair)}
        return tuple(sorted(barred))
    return _swayed(held, near, far, 1)


def _most_among(frame, one, other, left):
    """How many pairs a PASSING of the pairs of left alone has at the most, in a two-coloured frame."""
    lists = beside_lists(frame, one, other)
    near = {pair: [own for own in lists[pair] if own in left] for pair in left}
    return most_loose(near, [pair for pair in sides(frame, one, other)[0] if pair in left])


def _asked(frame, one, other, pair):
    """As _answered, with pair as a tuple: Unfit if it is no pair of numbers, CanNot if it is not PASSABLE."""
    held, near, far = _framed(frame, one, other)
    told = plain(pair)
    if not is_number_pair(told):
        raise Unfit()
    need_few(near, far)
    need_greatest(held)
    if not is_passable(held, near, far, told):
        raise CanNot()
    return (held, near, far, told)


def most_with(frame, one, other, pair):
    """How many pairs a PASSING that has pair has at the most."""
    held, near, far, told = _asked(frame, one, other, pair)
    if not is_two_coloured(held):
        return most_at(totals(_tiers(held, near, far)), told, 1)
    barred = pairs_beside(held, near, far, told) + [told]
    left = {own: True for own in passable(held, near, far) if own not in barred}
    return _most_among(held, near, far, left) + 1


def most_without(frame, one, other, pair):
    """How many pairs a PASSING that does not have pair has at the most."""
    held, near, far, told = _asked(frame, one, other, pair)
    if not is_two_coloured(held):
        return most_at(totals(_tiers(held, near, far)), told, 0)
    left = {own: True for own in passable(held, near, far) if own != told}
    return _most_among(held, near, far, left)
