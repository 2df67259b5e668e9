"""However high: what passes at any number of levels, by tables of loose sets and by stretches."""

from evenlifts.errors import TooMany
from evenlifts.piles import passed_in, pile_of, settled_from
from evenlifts.shapes import apart_by, near_lists, plain
from evenlifts.stands import as_stands

_MOST_LOOSE = 6


def _lotted(frame, lot):
    """frame and lot as tuples; TooMany for more jacks than loose sets are told of."""
    held, jacks = plain((frame, lot))
    if held[0] > _MOST_LOOSE:
        raise TooMany()
    return (held, jacks)


def _loose(frame, lot):
    """The list, ascending, of all loose sets within lot."""
    near = near_lists(frame)
    found = [()]
    for jack in lot:
        found = found + [own + (jack,) for own in found if not any([far in near[jack] for far in own])]
    return sorted(found)


def _meet(lot, more):
    """Whether two sets have a common jack."""
    return any([jack in more for jack in lot])


def loose_lots(frame, lot):
    """The list, ascending, of all loose sets within lot."""
    held, jacks = _lotted(frame, lot)
    return _loose(held, jacks)


def fold(frame, lot):
    """How many jacks two loose sets within lot, without a common jack, have together at most."""
    held, jacks = _lotted(frame, lot)
    return pile_of(held, jacks)[0]


def table_of(frame, lot):
    """For each loose set within lot, for each of them how many jacks that has, None if they meet."""
    held, jacks = _lotted(frame, lot)
    lots = _loose(held, jacks)
    return tuple([tuple([None if _meet(own, far) else len(far) for far in lots]) for own in lots])


def _greatest_sum(row, column):
    """The greatest sum of an entry of row and that of column in its place, None if each two have a None."""
    sums = [here + there for here, there in zip(row, column) if here is not None and there is not None]
    return max(sums, default=None)


def added(table, more):
    """The table of the greatest sums of a row of table and a column of more."""
    columns = [list(column) for column in zip(*more)]
    return tuple([tuple([_greatest_sum(row, column) for column in columns]) for row in table])


def powered(table, number):
    """table, added to itself so often that number of them stand there."""
    power = plain(table)
    told = None
    left = number
    while left > 0:
        if left & 1 == 1:
            told = power if told is None else added(told, power)
        left = left // 2
        if left > 0:
            power = added(power, power)
    return told


def passing_at(frame, lot, number):
    """How many pairs pass at most at number levels, one above the other, at which just lot has PASSABLE ones."""
    held, jacks = _lotted(frame, lot)
    return passed_in(pile_of(held, jacks), number)


def settled(frame, lot):
    """The least number of levels from which on two more always let just fold more pass."""
    held, jacks = _lotted(frame, lot)
    return settled_from(pile_of(held, jacks))


def _stood(frame, one, other):
    """All three as tuples; TooMany for too many jacks, NoStand for what is no STAND."""
    held, _ = _lotted(frame, ())
    return as_stands(held, one, other)


def _all_stretches(one, other):
    """The list, ascending, of all STRETCHES."""
    spans = [(min(low, high) + 1, max(low, high)) for low, high in zip(one, other)]
    # At each of these levels some jack begins or ends: so a STRETCH goes from one to the next.
    ends = sorted(set([level for span in spans if span[0] < span[1] for level in span]))
    found = []
    for first, behind in zip(ends, ends[1:]):
        jacks = [jack for jack, (low, high) in enumerate(spans) if low <= first < high]
        if jacks:
            found.append((first, behind, tuple(jacks)))
    return found


def stretches(frame, one, other):
    """The list, ascending, of all STRETCHES."""
    _, near, far = _stood(frame, one, other)
    return _all_stretches(near, far)


def _one_above(most, lots):
    """What most tells, one level higher: for each of lots the most pairs that pass, if it passes there."""
    return {lot: len(lot) + max([most[own] for own in most if not _meet(own, lot)]) for lot in lots}


def _above(most, lots, by, many):
    """What most tells, many levels higher; by is how many more pass by two levels in the long run."""
    rows = [_one_above(most, lots)]
    # Once two levels have made all of it more by just this, they always will.
    while len(rows) < many and not (len(rows) > 2 and rows[-1] == {lot: rows[-3][lot] + by for lot in lots}):
        rows.append(_one_above(rows[-1], lots))
    left = many - len(rows)
    last = rows[-1] if left & 1 == 0 else rows[-2]
    return {lot: last[lot] + (left + 1) // 2 * by for lot in lots}


def _passed(frame, one, other):
    """How many pairs a greatest PASSING has."""
    most = {(): 0}
    # Levels at which none has a PASSABLE pair need no step: no jack has such pairs below and above them.
    for first, behind, jacks in _all_stretches(one, other):
        most = _above(most, _loose(frame, jacks), pile_of(frame, jacks)[0], behind - first)
    return max(most.values())


def high_passing(frame, one, other):
    """How many pairs a greatest PASSING has."""
    held, near, far = _stood(frame, one, other)
    return _passed(held, near, far)


def high_fewest(frame, one, other):
    """How many DEEDS a shortest PLAN has."""
    held, near, far = _stood(frame, one, other)
    return apart_by(near, far) - _passed(held, near, far)
