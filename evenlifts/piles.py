"""Levels piled one above the other, the same jacks passable at each: how many pairs pass there.

A file of the program's own use, not of the interface. A pile is a pair (fold, odd): two
levels let fold pass, and so do each two more; odd tells how many one level lets pass, and
three levels less fold, five less twice fold, .. up to where this stays as it is.
"""

from evenlifts.heaviest import most_of
from evenlifts.pairs import beside_lists


def _passed_at(frame, lot, number):
    """How many pairs pass at most at number levels at which just the jacks of lot have PASSABLE ones."""
    tops = tuple([number + 1 if jack in lot else 0 for jack in range(frame[0])])
    return most_of(beside_lists(frame, (0,) * frame[0], tops))


def pile_of(frame, lot):
    """The pile of levels at which just the jacks of lot have PASSABLE pairs."""
    most = _passed_at(frame, lot, 1)
    fold = _passed_at(frame, lot, 2)
    # An odd number of levels is some twos and one level alone. If none of the twos passes fold, each
    # of them loses one, and the level alone lets most pass. If one does, that level can be its lower
    # one instead: nothing more is passed than in turns by two sets that make fold, the greater one
    # first. That one has half of fold or more: so with as many twos as this is less than most, and
    # with more, turns are best.
    twos = most - (fold + 1) // 2
    return (fold, [most] + [_passed_at(frame, lot, 2 * many + 1) - many * fold for many in range(1, twos + 1)])


def passed_in(pile, number):
    """How many pairs pass at most at number levels of pile."""
    fold, odd = pile
    twos = number // 2
    if number == 2 * twos:
        return twos * fold
    return twos * fold + odd[min(twos, len(odd) - 1)]


def settled_from(pile):
    """The least number of levels from which on two more always let just fold more pass."""
    odd = pile[1]
    # What one, three, five, .. levels gain never grows: where it is as in the end, it stays.
    return 2 * odd.index(odd[-1])
