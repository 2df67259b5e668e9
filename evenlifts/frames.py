"""Frames: jacks and the beams that join them."""

from evenlifts.errors import CanNot, Unfit
from evenlifts.rings import is_odd_way, odd_way, turns_of
from evenlifts.shapes import is_number, is_numbers, is_pair_set, near_jacks, near_lists, need_jack, plain


def is_frame(thing):
    """Whether thing is a FRAME."""
    if not isinstance(thing, tuple) or len(thing) != 2:
        return False
    n, beams = thing
    if not is_number(n) or n < 2 or not is_pair_set(beams):
        return False
    if not all([0 <= low < high < n for low, high in beams]):
        return False
    # The ends are counted, so that a great n alone takes no time.
    return len(set([jack for beam in beams for jack in beam])) == n


def _framed(frame):
    """frame as tuples; Unfit if it is no FRAME."""
    held = plain(frame)
    if not is_frame(held):
        raise Unfit()
    return held


def _framed_with(frame, jack):
    """frame as tuples, if jack is one of it."""
    held = _framed(frame)
    if not is_number(jack):
        raise Unfit()
    need_jack(held, jack)
    return held


def neighbours(frame, jack):
    """The set of the neighbours of jack."""
    return tuple(near_jacks(_framed_with(frame, jack), jack))


def _part_at(near, jack):
    """The set of the jacks to which beams lead from jack, and jack."""
    found = [jack]
    at = 0
    while at < len(found):
        found = found + [far for far in near[found[at]] if far not in found]
        at += 1
    return tuple(sorted(found))


def parts(frame):
    """The set of the parts of frame, each a set of jacks."""
    near = near_lists(_framed(frame))
    told = [_part_at(near, jack) for jack in range(len(near))]
    return tuple([part for jack, part in enumerate(told) if part[0] == jack])


def part_of(frame, jack):
    """The part of frame that has jack."""
    return _part_at(near_lists(_framed_with(frame, jack)), jack)


def _near_by(held):
    """A dict with, for each jack, the list of its neighbours."""
    return dict(enumerate(near_lists(held)))


def is_two_coloured(frame):
    """Whether frame has COLOURS."""
    return turns_of(_near_by(_framed(frame))) is not None


def colours(frame):
    """The COLOURS of frame."""
    held = _framed(frame)
    colour = turns_of(_near_by(held))
    if colour is None:
        raise CanNot()
    return tuple([colour[jack] for jack in range(held[0])])


def is_colours(frame, thing):
    """Whether thing is the COLOURS of frame."""
    held = _framed(frame)
    colour = turns_of(_near_by(held))
    if colour is None or not is_numbers(thing):
        return False
    return thing == tuple([colour[jack] for jack in range(held[0])])


def odd_ring(frame):
    """An ODD RING of frame."""
    found = odd_way(_near_by(_framed(frame)))
    if found is None:
        raise CanNot()
    return found


def is_odd_ring(frame, thing):
    """Whether thing is an ODD RING of frame."""
    near = _near_by(_framed(frame))
    return is_numbers(thing) and all([jack in near for jack in thing]) and is_odd_way(near, thing)


def _need_from(number, least):
    """Raise Unfit if number is no number from least on."""
    if not is_number(number) or number < least:
        raise Unfit()


def row_frame(n):
    """n jacks in a row."""
    _need_from(n, 2)
    return (n, tuple([(jack, jack + 1) for jack in range(n - 1)]))


def ring_frame(n):
    """n jacks in a ring."""
    _need_from(n, 3)
    beams = [(jack, jack + 1) for jack in range(n - 1)] + [(0, n - 1)]
    return (n, tuple(sorted(beams)))


def floor_frame(rows, columns):
    """Jacks in rows and columns, numbered row by row."""
    _need_from(rows, 1)
    _need_from(columns, 1)
    n = rows * columns
    _need_from(n, 2)
    across = [(jack, jack + 1) for jack in range(n) if (jack + 1) % columns != 0]
    down = [(jack, jack + columns) for jack in range(n - columns)]
    return (n, tuple(sorted(across + down)))


def renamed(frame, names):
    """The FRAME in which jack k is called names[k]."""
    n, beams = _framed(frame)
    called = plain(names)
    if not is_numbers(called) or sorted(called) != list(range(n)):
        raise Unfit()
    ends = [(called[low], called[high]) for low, high in beams]
    return (n, tuple(sorted([(min(near, far), max(near, far)) for near, far in ends])))


def put_apart(one, other):
    """one and, behind it, other as one FRAME, no beam between."""
    n, beams = _framed(one)
    more, behind = _framed(other)
    return (n + more, beams + tuple([(low + n, high + n) for low, high in behind]))
