"""Couples of pairs beside one another: why no passing is greater."""

from evenlifts.asked import bounded, framed, need_greatest
from evenlifts.errors import CanNot, Unfit
from evenlifts.heaviest import greatest_of, most_of
from evenlifts.matching import matched, put_by, way_on
from evenlifts.pairs import all_pairs, beside_lists, couples_of, lies_between, pairs_beside
from evenlifts.passings import passing_of
from evenlifts.rings import is_odd_way, odd_way, two_sides
from evenlifts.shapes import is_number_pair, is_pair_set, need_few, plain


def _are_passable(one, other, thing):
    """Whether thing is a tuple of PASSABLE pairs."""
    if not isinstance(thing, tuple) or not all([is_number_pair(pair) for pair in thing]):
        return False
    return all([lies_between(one, other, pair) for pair in thing])


def is_couple(frame, one, other, thing):
    """Whether thing is a COUPLE."""
    if not _are_passable(one, other, thing) or len(thing) != 2 or thing[0] >= thing[1]:
        return False
    return thing[1] in pairs_beside(frame, one, other, thing[0])


def are_couples(frame, one, other, thing):
    """Whether thing are COUPLES."""
    if not isinstance(thing, tuple) or not all([is_couple(frame, one, other, own) for own in thing]):
        return False
    if not all([here < behind for here, behind in zip(thing, thing[1:])]):
        return False
    return len(set([pair for own in thing for pair in own])) == 2 * len(thing)


def couples_in(partner):
    """The set of the COUPLES of a dict of partners, both ways."""
    return tuple(sorted([(here, partner[here]) for here in partner if here < partner[here]]))


def most_couples(lists):
    """COUPLES of the pairs of lists, as many as can be; None if these have an ODD ROUND."""
    sides = two_sides(lists)
    if sides is None:
        return None
    return couples_in(matched(lists, sides[0]))


def _partners(couples):
    """A dict of partners, both ways."""
    partner = {}
    for here, far in couples:
        partner[here] = far
        partner[far] = here
    return partner


def _coupled(frame, one, other, couples):
    """All four as tuples; Unfit if they are not what they ought to be."""
    held, near, far = framed(frame, one, other)
    told = plain(couples)
    if not are_couples(held, near, far, told):
        raise Unfit()
    return (held, near, far, told)


def _leads_on(frame, one, other, partner, thing):
    """Whether thing is a WAY ON of the COUPLES of partner."""
    if not _are_passable(one, other, thing) or len(thing) == 0 or len(thing) & 1 == 1:
        return False
    if len(set(thing)) != len(thing) or thing[0] in partner or thing[-1] in partner:
        return False
    if not all([behind in pairs_beside(frame, one, other, here) for here, behind in zip(thing, thing[1:])]):
        return False
    return all([partner.get(here) == behind for here, behind in zip(thing[1:-1:2], thing[2:-1:2])])


def all_couples(frame, one, other):
    """The set of all that are a COUPLE."""
    held, near, far = bounded(frame, one, other)
    return tuple(couples_of(beside_lists(held, near, far)))


def is_couples(frame, one, other, thing):
    """Whether thing are COUPLES."""
    held, near, far = bounded(frame, one, other)
    return are_couples(held, near, far, thing)


def free_pairs(frame, one, other, couples):
    """The set of the PASSABLE pairs that are in none of couples."""
    _, near, far, told = _coupled(frame, one, other, couples)
    need_few(near, far)
    partner = _partners(told)
    return tuple([pair for pair in all_pairs(near, far) if pair not in partner])


def led_on(frame, one, other, couples):
    """A WAY ON of couples."""
    held, near, far, told = _coupled(frame, one, other, couples)
    need_few(near, far)
    lists = beside_lists(held, near, far)
    sides = two_sides(lists)
    if sides is None:
        raise CanNot()
    partner = _partners(told)
    way = way_on(lists, partner, [pair for pair in sides[0] if pair not in partner])
    if not way:
        raise CanNot()
    return way


def is_led_on(frame, one, other, couples, thing):
    """Whether thing is a WAY ON of couples."""
    held, near, far, told = _coupled(frame, one, other, couples)
    need_few(near, far)
    return _leads_on(held, near, far, _partners(told), thing)


def couples_by(frame, one, other, couples, way):
    """couples without those of way, a WAY ON, with its pairs, two by two, as COUPLES."""
    held, near, far, told = _coupled(frame, one, other, couples)
    partner = _partners(told)
    steps = plain(way)
    if not _leads_on(held, near, far, partner, steps):
        raise Unfit()
    need_few(near, far)
    put_by(partner, steps)
    return couples_in(partner)


def greatest_couples(frame, one, other):
    """COUPLES, as many as can be."""
    held, near, far = bounded(frame, one, other)
    found = most_couples(beside_lists(held, near, far))
    if found is None:
        raise CanNot()
    return found


def cover(frame, one, other):
    """A COVER of as few pairs as can be."""
    held, near, far = bounded(frame, one, other)
    need_greatest(held)
    passed = greatest_of(beside_lists(held, near, far))
    return tuple([pair for pair in all_pairs(near, far) if pair not in passed])


def is_cover(frame, one, other, thing):
    """Whether thing is a COVER."""
    held, near, far = bounded(frame, one, other)
    if not is_pair_set(thing) or not _are_passable(near, far, thing):
        return False
    return all([here in thing or there in thing for here, there in couples_of(beside_lists(held, near, far))])


def short_by(frame, one, other, couples):
    """How many PASSABLE pairs there are, less the members of a greatest PASSING and those of couples."""
    held, near, far, told = _coupled(frame, one, other, couples)
    need_few(near, far)
    need_greatest(held)
    lists = beside_lists(held, near, far)
    return len(lists) - most_of(lists) - len(told)


def papers_agree(frame, one, other, couples, passing):
    """Whether couples and passing have together as many members as there are PASSABLE pairs."""
    held, near, far, told = _coupled(frame, one, other, couples)
    passed = passing_of(held, near, far, passing)
    need_few(near, far)
    return len(told) + len(passed) == len(all_pairs(near, far))


def odd_round(frame, one, other):
    """An ODD ROUND."""
    held, near, far = bounded(frame, one, other)
    found = odd_way(beside_lists(held, near, far))
    if found is None:
        raise CanNot()
    return found


def is_odd_round(frame, one, other, thing):
    """Whether thing is an ODD ROUND."""
    held, near, far = bounded(frame, one, other)
    return _are_passable(near, far, thing) and is_odd_way(beside_lists(held, near, far), thing)
