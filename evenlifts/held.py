"""What a Yard holds, and what an EDIT makes of it.

A file of the program's own use, not of the interface. What is held is a quadruple (frame,
stand, prices, goal), all of it tuples, so that what was held once stays as it was.
"""

from evenlifts.deeds import done
from evenlifts.errors import CanNot, NoBeam, NoStand, Unfit
from evenlifts.frames import is_frame
from evenlifts.prices import priced
from evenlifts.shapes import need_jack


def held_at_first(frame):
    """What a new Yard holds."""
    n = frame[0]
    return (frame, (0,) * n, ((1, ()),) * n, (None,) * n)


def _put(row, at, worth):
    """row, a tuple, with worth in the place at."""
    return row[:at] + (worth,) + row[at + 1:]


def _moved(held, jack, height):
    """What is held behind a DEED."""
    frame, stand, prices, goal = held
    need_jack(frame, jack)
    try:
        return (frame, done(frame, stand, (jack, height)), prices, goal)
    except CanNot:
        raise Unfit()


def _planned(held, plan):
    """What is held behind all DEEDS of plan."""
    found = held
    for jack, height in plan:
        found = _moved(found, jack, height)
    return found


def _joined(held, low, high):
    """What is held with a beam more."""
    (n, beams), stand, prices, goal = held
    need_jack(held[0], low)
    need_jack(held[0], high)
    if (low, high) in beams or low >= high:
        raise Unfit()
    if abs(stand[low] - stand[high]) > 1:
        raise NoStand((low, high))
    return ((n, tuple(sorted(beams + ((low, high),)))), stand, prices, goal)


def _parted(held, low, high):
    """What is held with a beam less."""
    (n, beams), stand, prices, goal = held
    if (low, high) not in beams:
        raise NoBeam((low, high))
    left = (n, tuple([beam for beam in beams if beam != (low, high)]))
    if not is_frame(left):
        raise Unfit()
    return (left, stand, prices, goal)


def _grown(held, jack):
    """What is held with a jack more."""
    (n, beams), stand, prices, goal = held
    need_jack(held[0], jack)
    more = (n + 1, tuple(sorted(beams + ((jack, n),))))
    return (more, stand + (stand[jack],), prices + ((1, ()),), goal + (None,))


def _aimed(held, jack, height):
    """What is held with this part of the goal."""
    frame, stand, prices, goal = held
    need_jack(frame, jack)
    return (frame, stand, prices, _put(goal, jack, height))


def _priced(held, jack, level, price):
    """What is held with this price told of a level."""
    frame, stand, prices, goal = held
    need_jack(frame, jack)
    return (frame, stand, priced(prices, (jack, level), price), goal)


def _evened(held, jack, number):
    """What is held with this even price of a jack."""
    frame, stand, prices, goal = held
    need_jack(frame, jack)
    return (frame, stand, _put(prices, jack, (number, prices[jack][1])), goal)


_EDITS = {
    "move": _moved, "plan": _planned, "beam": _joined, "out": _parted, "more": _grown, "goal": _aimed, "price": _priced,
    "even": _evened,
}


def held_behind(held, edit):
    """What is held behind edit; the error of what cannot be done."""
    change = _EDITS[edit[0]]
    told = edit[1:]
    return change(held, *told)
