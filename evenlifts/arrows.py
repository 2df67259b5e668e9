"""Which deed comes ahead of which: the moves of a passing, their arrows, and all their orders."""

from evenlifts.asked import framed
from evenlifts.deeds import is_deed
from evenlifts.errors import CanNot, TooMany, Unfit
from evenlifts.pairs import lies_between
from evenlifts.passings import passing_of
from evenlifts.plans import leads_straight, next_stop, pairs_passed
from evenlifts.shapes import apart_by, is_jack, is_number, is_numbers, near_lists, need_few, plain

_MOST_MOVES = 14


def _passed(frame, one, other, passing):
    """All four as tuples; Unfit if they are not what they ought to be."""
    held, near, far = framed(frame, one, other)
    return (held, near, far, passing_of(held, near, far, passing))


def _bounded(frame, one, other, passing):
    """As _passed, and TooMany if one and other are too far apart."""
    held, near, far, told = _passed(frame, one, other, passing)
    need_few(near, far)
    return (held, near, far, told)


def _many_moves(one, other, passing):
    """How many MOVES there are."""
    return apart_by(one, other) - len(passing)


def _moves(one, other, passing):
    """The list, ascending by jack and, of each jack, in their order, of the MOVES."""
    gone = {pair: True for pair in passing}
    found = []
    for jack, height in enumerate(one):
        here = height
        while here != other[jack]:
            stop = next_stop(jack, here, other[jack], gone)
            found.append((jack, here, stop))
            here = stop
    return found


def _is_move(frame, one, other, passing, thing):
    """Whether thing is a MOVE of passing."""
    if not is_numbers(thing) or len(thing) != 3 or not is_jack(frame, thing[0]):
        return False
    jack, start, stop = thing
    if (jack, start) in passing or start == other[jack]:
        return False
    if start != one[jack] and not lies_between(one, other, (jack, start)):
        return False
    return stop == next_stop(jack, start, other[jack], passing)


def _is_ahead(raised, first, later):
    """Whether a MOVE of a neighbour, both raised or both lowered, has an ARROW to a later one."""
    return first[1] <= later[2] - 2 if raised else first[1] >= later[2] + 2


def _ahead_lists(frame, one, other, passing):
    """A dict with, for each MOVE, the list of those from which an ARROW leads to it."""
    near = near_lists(frame)
    own = [[] for _ in near]
    for move in _moves(one, other, passing):
        own[move[0]].append(move)
    found = {}
    for jack, rows in enumerate(own):
        raised = one[jack] < other[jack]
        alike = [move for far in near[jack] if (one[far] < other[far]) == raised for move in own[far]]
        for at, later in enumerate(rows):
            found[later] = rows[:at][-1:] + [first for first in alike if _is_ahead(raised, first, later)]
    return found


def moves(frame, one, other, passing):
    """The set of the MOVES of passing."""
    _, near, far, told = _bounded(frame, one, other, passing)
    return tuple(sorted(_moves(near, far, told)))


def arrows(frame, one, other, passing):
    """The set of the ARROWS of passing."""
    held, near, far, told = _bounded(frame, one, other, passing)
    ahead = _ahead_lists(held, near, far, told)
    return tuple(sorted([(first, later) for later in ahead for first in ahead[later]]))


def must_come_ahead(frame, one, other, passing, move):
    """The set of the MOVES that come ahead of move in each ORDER."""
    held, near, far, told = _passed(frame, one, other, passing)
    asked = plain(move)
    if not _is_move(held, near, far, told, asked):
        raise Unfit()
    need_few(near, far)
    ahead = _ahead_lists(held, near, far, told)
    found = {}
    waiting = [asked]
    while waiting:
        here = waiting.pop()
        for first in ahead[here]:
            if first not in found:
                found[first] = True
                waiting.append(first)
    return tuple(sorted(found))


def can_come_first(frame, one, other, passing):
    """The set of the MOVES with which some ORDER begins."""
    held, near, far, told = _bounded(frame, one, other, passing)
    ahead = _ahead_lists(held, near, far, told)
    return tuple(sorted([move for move in ahead if not ahead[move]]))


def _deeds_of(order):
    """The PLAN of an ORDER."""
    return tuple([(jack, stop) for jack, _, stop in order])


def _is_order_of(frame, one, other, passing, thing):
    """Whether thing is an ORDER of passing."""
    if not isinstance(thing, tuple) or len(thing) != _many_moves(one, other, passing):
        return False
    if not all([is_numbers(move) and len(move) == 3 for move in thing]):
        return False
    if sorted(thing) != sorted(_moves(one, other, passing)):
        return False
    # Those of each jack in turn, and each can be done at what the ones ahead leave: exactly if no ARROW leads back.
    return leads_straight(frame, one, other, _deeds_of(thing))


def _order_of(frame, one, other, passing, order):
    """order as tuples; Unfit if it is no ORDER of passing."""
    told = plain(order)
    if not _is_order_of(frame, one, other, passing, told):
        raise Unfit()
    return told


def is_order(frame, one, other, passing, thing):
    """Whether thing is an ORDER of passing."""
    held, near, far, told = _bounded(frame, one, other, passing)
    return _is_order_of(held, near, far, told, thing)


def plan_of_order(frame, one, other, passing, order):
    """The PLAN of an ORDER."""
    held, near, far, told = _passed(frame, one, other, passing)
    row = _order_of(held, near, far, told, order)
    need_few(near, far)
    return _deeds_of(row)


def order_of_plan(frame, one, other, plan):
    """The pair of what a straight PLAN passes, and of its ORDER."""
    held, near, far = framed(frame, one, other)
    deeds = plain(plan)
    if not isinstance(deeds, tuple) or not all([is_deed(held, deed) for deed in deeds]):
        raise Unfit()
    need_few(near, far)
    if not leads_straight(held, near, far, deeds):
        raise CanNot()
    here = list(near)
    row = []
    for jack, height in deeds:
        row.append((jack, here[jack], height))
        here[jack] = height
    return (pairs_passed(near, far, deeds), tuple(row))


def _next_ones(lists, other, gone, stand):
    """The list of pairs of each MOVE, ascending, with which it can go on at stand, and what comes of it."""
    found = []
    for jack, here in enumerate(stand):
        if here != other[jack]:
            stop = next_stop(jack, here, other[jack], gone)
            if all([abs(stop - stand[far]) <= 1 for far in lists[jack]]):
                found.append(((jack, here, stop), stand[:jack] + (stop,) + stand[jack + 1:]))
    return found


def _walks(frame, one, other, passing):
    """The pair of two dicts: for each STAND of some ORDER how it can go on, in how many ways it comes to other."""
    lists = near_lists(frame)
    gone = {pair: True for pair in passing}
    rows = [[one]]
    steps = {other: []}
    for _ in range(_many_moves(one, other, passing)):
        behind = {}
        for stand in rows[-1]:
            steps[stand] = _next_ones(lists, other, gone, stand)
            for _, moved in steps[stand]:
                behind[moved] = True
        rows.append(list(behind))
    ways = {other: 1}
    for row in rows[:-1][::-1]:
        for stand in row:
            ways[stand] = sum([ways[moved] for _, moved in steps[stand]])
    return (steps, ways)


def _need_few_moves(one, other, passing):
    """Raise TooMany if there is too much to count all ORDERS."""
    need_few(one, other)
    if _many_moves(one, other, passing) > _MOST_MOVES:
        raise TooMany()


def how_many_orders(frame, one, other, passing):
    """How many ORDERS there are."""
    held, near, far, told = _passed(frame, one, other, passing)
    _need_few_moves(near, far, told)
    return _walks(held, near, far, told)[1][near]


def order_at(frame, one, other, passing, number):
    """The ORDER of this number."""
    held, near, far, told = _passed(frame, one, other, passing)
    if not is_number(number):
        raise Unfit()
    _need_few_moves(near, far, told)
    steps, ways = _walks(held, near, far, told)
    if not 0 <= number < ways[near]:
        raise CanNot()
    left = number
    stand = near
    row = []
    while stand != far:
        for move, moved in steps[stand]:
            if left < ways[moved]:
                break
            left -= ways[moved]
        row.append(move)
        stand = moved
    return tuple(row)


def order_number(frame, one, other, passing, order):
    """The number of an ORDER."""
    held, near, far, told = _passed(frame, one, other, passing)
    row = _order_of(held, near, far, told, order)
    _need_few_moves(near, far, told)
    steps, ways = _walks(held, near, far, told)
    stand = near
    number = 0
    for move in row:
        number += sum([ways[moved] for own, moved in steps[stand] if own < move])
        stand = [moved for own, moved in steps[stand] if own == move][0]
    return number


def _two_orders(frame, one, other, passing, order, goal):
    """order and goal as tuples; Unfit or TooMany if they are not what they ought to be."""
    held, near, far, told = _passed(frame, one, other, passing)
    row, last = _order_of(held, near, far, told, order), _order_of(held, near, far, told, goal)
    need_few(near, far)
    return (row, last)


def led_to(frame, one, other, passing, order, goal):
    """A tuple of ORDERS from order to goal, each with two neighbours of the one ahead exchanged."""
    row, last = _two_orders(frame, one, other, passing, order, goal)
    found = [row]
    # Each MOVE of goal in its turn comes forward, past such alone as come later in goal.
    for place, move in enumerate(last):
        here = row.index(move)
        for at in range(here, place, -1):
            row = row[:at - 1] + (row[at], row[at - 1]) + row[at + 1:]
            found.append(row)
    return tuple(found)


def _are_exchanged(row, thing):
    """Whether thing is row, a tuple of triples of numbers, with two neighbours exchanged."""
    if not isinstance(thing, tuple) or len(thing) != len(row):
        return False
    places = [at for at in range(len(row)) if row[at] != thing[at]]
    if len(places) != 2 or places[1] != places[0] + 1:
        return False
    if row[places[0]] != thing[places[1]] or row[places[1]] != thing[places[0]]:
        return False
    return not _has_truths(thing)


def _has_truths(row):
    """Whether True or False stands for a number in a tuple of triples."""
    return any([isinstance(part, bool) for move in row for part in move])


def _turned_round(order, goal):
    """How many pairs of MOVES come the other way round in goal."""
    place = {move: at for at, move in enumerate(goal)}
    places = [place[move] for move in order]
    return sum([1 for at, here in enumerate(places) for behind in places[at:] if behind < here])


def is_led_to(frame, one, other, passing, order, goal, thing):
    """Whether thing is a tuple of ORDERS from order to goal, as short as can be, two neighbours exchanged at a time."""
    row, last = _two_orders(frame, one, other, passing, order, goal)
    if not isinstance(thing, tuple) or len(thing) != _turned_round(row, last) + 1:
        return False
    if thing[0] != row or thing[-1] != last or _has_truths(thing[0]):
        return False
    # In so few exchanges each one turns a pair round that goal has the other way: so an ORDER stands behind each.
    for here, behind in zip(thing, thing[1:]):
        # Each is looked at only behind one that is an ORDER.
        if not _are_exchanged(here, behind):
            return False
    return True
