"""Passings: sets of passable pairs, no two of them beside one another."""

from evenlifts.asked import MOST_JACKS, bounded, framed, need_answer, need_greatest
from evenlifts.errors import CanNot, TooMany, Unfit
from evenlifts.heaviest import always_of, count_greatest, count_of, greatest_of, most_of, never_of
from evenlifts.pairs import beside_lists, left_lists, lies_between, pairs_beside
from evenlifts.shapes import is_number, is_number_pair, is_pair_set, near_lists, need_few, plain

_MOST_TOLD = 2000


def _counted(frame, one, other):
    """The lists of what is beside what; TooMany for more jacks than are gone through level by level."""
    held, near, far = bounded(frame, one, other)
    if held[0] > MOST_JACKS:
        raise TooMany()
    return beside_lists(held, near, far)


def _answered(frame, one, other):
    """The lists of what is beside what; TooMany if no greatest PASSING is told for frame."""
    held, near, far = bounded(frame, one, other)
    need_greatest(held)
    return beside_lists(held, near, far)


def passes(frame, one, other, thing):
    """Whether thing is a PASSING."""
    if not is_pair_set(thing) or not all([lies_between(one, other, pair) for pair in thing]):
        return False
    taken = {pair: True for pair in thing}
    return not any([far in taken for pair in thing for far in pairs_beside(frame, one, other, pair)])


def passing_of(frame, one, other, passing):
    """passing as tuples; Unfit if it is no PASSING."""
    told = plain(passing)
    if not passes(frame, one, other, told):
        raise Unfit()
    return told


def is_passing(frame, one, other, thing):
    """Whether thing is a PASSING."""
    held, near, far = bounded(frame, one, other)
    return passes(held, near, far, thing)


def lots_at(frame, one, other, level):
    """The list, ascending, of the sets of jacks that a PASSING may have at level."""
    held, near, far = framed(frame, one, other)
    if not is_number(level):
        raise Unfit()
    need_few(near, far)
    lists = near_lists(held)
    lots = [()]
    for jack in range(held[0]):
        if lies_between(near, far, (jack, level)):
            lots = lots + [lot + (jack,) for lot in lots if not any([own in lists[jack] for own in lot])]
    return sorted(lots)


def barred_by(frame, one, other, passing):
    """The set of the PASSABLE pairs that are beside one of passing."""
    held, near, far = framed(frame, one, other)
    told = passing_of(held, near, far, passing)
    need_few(near, far)
    barred = {own: True for pair in told for own in pairs_beside(held, near, far, pair)}
    return tuple(sorted(barred))


def filled_up(frame, one, other, passing):
    """The PASSING that comes of passing when the least pair that can be put in is, till there is none."""
    held, near, far = framed(frame, one, other)
    told = passing_of(held, near, far, passing)
    need_few(near, far)
    lists = beside_lists(held, near, far)
    taken = {pair: True for pair in told}
    # A pair that cannot be put in never can be later: so once through is enough.
    for pair in lists:
        if not any([own in taken for own in lists[pair]]):
            taken[pair] = True
    return tuple(sorted(taken))


def all_passings(frame, one, other):
    """The list, ascending, of all PASSINGS."""
    lists = _counted(frame, one, other)
    found = [()]
    for pair in lists:
        barred = lists[pair]
        found = found + [own + (pair,) for own in found if not any([taken in barred for taken in own])]
        if len(found) > _MOST_TOLD:
            raise TooMany()
    return sorted(found)


def how_many_passings(frame, one, other):
    """How many PASSINGS there are."""
    return count_of(_counted(frame, one, other))


def most_passed(frame, one, other):
    """How many pairs a greatest PASSING has."""
    return most_of(_answered(frame, one, other))


def greatest_passing(frame, one, other):
    """A greatest PASSING."""
    return greatest_of(_answered(frame, one, other))


def is_greatest(frame, one, other, thing):
    """Whether thing is a greatest PASSING."""
    lists = _answered(frame, one, other)
    held, near, far = framed(frame, one, other)
    return passes(held, near, far, thing) and len(thing) == most_of(lists)


def how_many_greatest(frame, one, other):
    """How many greatest PASSINGS there are."""
    return count_greatest(_counted(frame, one, other))


def always_passed(frame, one, other):
    """The set of the PASSABLE pairs that each greatest PASSING has."""
    return always_of(_answered(frame, one, other))


def never_passed(frame, one, other):
    """The set of the PASSABLE pairs that no greatest PASSING has."""
    return never_of(_answered(frame, one, other))


def _asked(frame, one, other, pair):
    """The lists of what is beside what, and pair as a tuple: CanNot if it is not PASSABLE."""
    held, near, far = framed(frame, one, other)
    told = plain(pair)
    if not is_number_pair(told):
        raise Unfit()
    need_answer(held, near, far)
    if not lies_between(near, far, told):
        raise CanNot()
    return (beside_lists(held, near, far), told)


def most_with(frame, one, other, pair):
    """How many pairs a PASSING that has pair has at the most."""
    lists, told = _asked(frame, one, other, pair)
    return most_of(left_lists(lists, lists[told] + [told])) + 1


def most_without(frame, one, other, pair):
    """How many pairs a PASSING that does not have pair has at the most."""
    lists, told = _asked(frame, one, other, pair)
    return most_of(left_lists(lists, [told]))
