"""The deeds that a jack, or a lot of jacks, has to do itself, whatever all others do."""

from evenlifts.asked import framed, need_answer
from evenlifts.couples import are_couples, most_couples
from evenlifts.deeds import is_plan
from evenlifts.errors import CanNot, Unfit
from evenlifts.heaviest import greatest_of, heaviest_of, most_of
from evenlifts.pairs import beside_lists, left_lists
from evenlifts.plans import straight_plan
from evenlifts.shapes import is_jack, need_few, need_jack, plain

_MOST_LOTS = 4


def is_lot(frame, thing):
    """Whether thing is a set of jacks."""
    if not isinstance(thing, tuple) or not all([is_jack(frame, jack) for jack in thing]):
        return False
    return all([here < behind for here, behind in zip(thing, thing[1:])])


def _are_lots(frame, thing):
    """Whether thing is a tuple of a few sets of jacks, no jack in two of them."""
    if not isinstance(thing, tuple) or len(thing) > _MOST_LOTS or not all([is_lot(frame, lot) for lot in thing]):
        return False
    jacks = [jack for lot in thing for jack in lot]
    return len(set(jacks)) == len(jacks)


def _apart_of(one, other, lot):
    """The sizes by which the heights of the jacks of lot differ, added up."""
    return sum([abs(one[jack] - other[jack]) for jack in lot])


def _own_lists(frame, one, other, lot):
    """A dict with, for each PASSABLE pair of a jack of lot, the list of such beside it."""
    lists = beside_lists(frame, one, other)
    return left_lists(lists, [pair for pair in lists if pair[0] not in lot])


def _own_many(one, other, jack):
    """The fewest own DEEDS of jack alone."""
    return (abs(one[jack] - other[jack]) + 1) // 2


def own_fewest(frame, one, other, jack):
    """The fewest own DEEDS of jack alone."""
    held, near, far = framed(frame, one, other)
    need_few(near, far)
    need_jack(held, jack)
    return _own_many(near, far, jack)


def least_for_each(frame, one, other):
    """The tuple of the fewest own DEEDS of each jack alone."""
    held, near, far = framed(frame, one, other)
    need_few(near, far)
    return tuple([_own_many(near, far, jack) for jack in range(held[0])])


def _lotted(frame, one, other, lot):
    """All four as tuples; Unfit if they are not what they ought to be."""
    held, near, far = framed(frame, one, other)
    jacks = plain(lot)
    if not is_lot(held, jacks):
        raise Unfit()
    return (held, near, far, jacks)


def _answered(frame, one, other, lot):
    """As _lotted, and TooMany if no greatest PASSING is told for them."""
    held, near, far, jacks = _lotted(frame, one, other, lot)
    need_answer(held, near, far)
    return (held, near, far, jacks)


def _lot_many(frame, one, other, lot):
    """The fewest own DEEDS of lot."""
    return _apart_of(one, other, lot) - most_of(_own_lists(frame, one, other, lot))


def lot_fewest(frame, one, other, lot):
    """The fewest own DEEDS of lot."""
    held, near, far, jacks = _answered(frame, one, other, lot)
    return _lot_many(held, near, far, jacks)


def lot_plan(frame, one, other, lot):
    """A PLAN from one to other with the fewest own DEEDS of lot."""
    held, near, far, jacks = _answered(frame, one, other, lot)
    return straight_plan(held, near, far, greatest_of(_own_lists(held, near, far, jacks)))


def is_lot_plan(frame, one, other, lot, thing):
    """Whether thing is a PLAN from one to other with the fewest own DEEDS of lot."""
    held, near, far, jacks = _answered(frame, one, other, lot)
    if not is_plan(held, near, far, thing):
        return False
    own = [deed for deed in thing if deed[0] in jacks]
    return len(own) == _lot_many(held, near, far, jacks)


def can_all(frame, one, other, lot):
    """Whether one PLAN has, for each jack of lot at once, the fewest own DEEDS."""
    held, near, far, jacks = _answered(frame, one, other, lot)
    return _lot_many(held, near, far, jacks) == sum([_own_many(near, far, jack) for jack in jacks])


def own_paper(frame, one, other, lot):
    """An OWN PAPER of lot: COUPLES that show that no PLAN has fewer own DEEDS of it."""
    held, near, far, jacks = _lotted(frame, one, other, lot)
    need_few(near, far)
    found = most_couples(_own_lists(held, near, far, jacks))
    if found is None:
        raise CanNot()
    return found


def is_own_paper(frame, one, other, lot, thing):
    """Whether thing is an OWN PAPER of lot."""
    held, near, far, jacks = _answered(frame, one, other, lot)
    if not are_couples(held, near, far, thing):
        return False
    if not all([pair[0] in jacks for couple in thing for pair in couple]):
        return False
    lists = _own_lists(held, near, far, jacks)
    return len(thing) == len(lists) - most_of(lists)


def _ranks(lists, lots):
    """A dict with, for each pair of lists, a weight that all pairs of later lots together cannot reach."""
    weights = {}
    worth = 1
    for lot in lots[::-1]:
        for pair in [own for own in lists if own[0] in lot]:
            weights[pair] = worth
        worth = worth * (len(lists) + 1)
    return weights


def _ranked_passing(frame, one, other, lots):
    """A PASSING with the most pairs of the first lot, of those that have so many the most of the second one, .."""
    lists = _own_lists(frame, one, other, [jack for lot in lots for jack in lot])
    return heaviest_of(lists, _ranks(lists, lots))


def _in_lots(frame, one, other, lots):
    """All four as tuples; Unfit if they are not what they ought to be, TooMany if there is no answer."""
    held, near, far = framed(frame, one, other)
    told = plain(lots)
    if not _are_lots(held, told):
        raise Unfit()
    need_answer(held, near, far)
    return (held, near, far, told)


def ranked(frame, one, other, lots):
    """The tuple of the fewest own DEEDS of the first of lots, then with so few, of the second one, and so on."""
    held, near, far, told = _in_lots(frame, one, other, lots)
    passed = _ranked_passing(held, near, far, told)
    return tuple([_apart_of(near, far, lot) - len([pair for pair in passed if pair[0] in lot]) for lot in told])


def ranked_plan(frame, one, other, lots):
    """A PLAN with the own DEEDS of lots that ranked tells."""
    held, near, far, told = _in_lots(frame, one, other, lots)
    return straight_plan(held, near, far, _ranked_passing(held, near, far, told))
