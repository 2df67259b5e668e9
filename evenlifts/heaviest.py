"""Greatest and heaviest passings, of whatever passable pairs.

A file of the program's own use, not of the interface. near is a dict with, for each pair
that may be taken, the list of those that are beside it. Where these fall into two sides a
matching or loads tell the answer; otherwise they are gone through level by level.
"""

from evenlifts.flows import heaviest_loose
from evenlifts.matching import always_loose, greatest_loose, most_loose
from evenlifts.rings import two_sides
from evenlifts.tiers import heaviest_taken, heaviest_told, how_many, most_at, tiers_of, totals


def _even_tiers(near):
    """The tiers of near, if each pair counts for one."""
    return tiers_of(near, {pair: 1 for pair in near})


def most_of(near):
    """How many pairs a greatest PASSING has."""
    sides = two_sides(near)
    if sides is None:
        return heaviest_told(_even_tiers(near))[0]
    return most_loose(near, sides[0])


def greatest_of(near):
    """The set of the pairs of a greatest PASSING."""
    sides = two_sides(near)
    if sides is None:
        return tuple(sorted(heaviest_taken(_even_tiers(near))))
    return tuple(sorted(greatest_loose(near, sides[0], sides[1])))


def count_of(near):
    """How many PASSINGS there are."""
    return how_many(_even_tiers(near))


def count_greatest(near):
    """How many greatest PASSINGS there are."""
    return heaviest_told(_even_tiers(near))[1]


def _swayed(near, taken):
    """The set of the pairs with which (1), without which (0) no greatest PASSING is told."""
    found = totals(_even_tiers(near))
    most = most_of(near)
    return tuple([pair for pair in near if most_at(found, pair, taken) < most])


def always_of(near):
    """The set of the pairs that each greatest PASSING has."""
    sides = two_sides(near)
    if sides is None:
        return _swayed(near, 0)
    return tuple(sorted(always_loose(near, sides[0], sides[1])))


def never_of(near):
    """The set of the pairs that no greatest PASSING has."""
    if two_sides(near) is None:
        return _swayed(near, 1)
    barred = {far: True for pair in always_of(near) for far in near[pair]}
    return tuple(sorted(barred))


def heaviest_of(near, weights):
    """The set of the pairs of a heaviest PASSING."""
    sides = two_sides(near)
    if sides is None:
        return tuple(sorted(heaviest_taken(tiers_of(near, weights))))
    return tuple(sorted(heaviest_loose(near, weights, sides[0], sides[1])))


def most_weight(near, weights):
    """What a heaviest PASSING weighs."""
    return sum([weights[pair] for pair in heaviest_of(near, weights)])
