"""Frames: jacks and the beams that join them."""

from evenlifts.errors import CanNot, Unfit
from evenlifts.shapes import is_number, is_numbers, is_pair_set, near_jacks, near_lists, need_jack, plain


def is_frame(thing):
    """Whether thing is a FRAME."""
    if not isinstance(thing, tuple) or len(thing) != 2:
        return False
    n, beams = thing
    if not is_number(n) or n < 2 or not is_pair_set(beams):
        return False
    if not all([0 <= low < high < n for low, high in beams]):
        return False
    # The ends are counted, so that a great n alone takes no time.
    return len(set([jack for beam in beams for jack in beam])) == n


def _framed(frame):
    """frame as tuples; Unfit if it is no FRAME."""
    held = plain(frame)
    if not is_frame(held):
        raise Unfit()
    return held


def _framed_with(frame, jack):
    """frame as tuples, if jack is one of it."""
    held = _framed(frame)
    if not is_number(jack):
        raise Unfit()
    need_jack(held, jack)
    return held


def neighbours(frame, jack):
    """The set of the neighbours of jack."""
    return tuple(near_jacks(_framed_with(frame, jack), jack))


def _part_at(near, jack):
    """The set of the jacks to which beams lead from jack, and jack."""
    found = [jack]
    at = 0
    while at < len(found):
        found = found + [far for far in near[found[at]] if far not in found]
        at += 1
    return tuple(sorted(found))


def parts(frame):
    """The set of the parts of frame, each a set of jacks."""
    near = near_lists(_framed(frame))
    told = [_part_at(near, jack) for jack in range(len(near))]
    return tuple([part for jack, part in enumerate(told) if part[0] == jack])


def part_of(frame, jack):
    """The part of frame that has jack."""
    return _part_at(near_lists(_framed_with(frame, jack)), jack)


def _grown(near, start, colour, came):
    """Colour the part of start in turns; came tells from which jack each was come to."""
    colour[start] = 0
    queue = [start]
    at = 0
    while at < len(queue):
        jack = queue[at]
        for far in near[jack]:
            if colour[far] is None:
                colour[far] = 1 - colour[jack]
                came[far] = jack
                queue.append(far)
        at += 1


def _painted(frame):
    """The pair of the lists of colours in turns from the least jack of each part, and of came."""
    near = near_lists(frame)
    colour = [None for _ in near]
    came = [None for _ in near]
    for jack in range(len(near)):
        if colour[jack] is None:
            _grown(near, jack, colour, came)
    return (colour, came)


def _plain_beams(frame, colour):
    """The list of the beams with one colour at both ends."""
    return [(low, high) for low, high in frame[1] if colour[low] == colour[high]]


def is_two_coloured(frame):
    """Whether frame has COLOURS."""
    held = _framed(frame)
    return not _plain_beams(held, _painted(held)[0])


def colours(frame):
    """The COLOURS of frame."""
    held = _framed(frame)
    colour = _painted(held)[0]
    if _plain_beams(held, colour):
        raise CanNot()
    return tuple(colour)


def is_colours(frame, thing):
    """Whether thing is the COLOURS of frame."""
    held = _framed(frame)
    colour = _painted(held)[0]
    return is_numbers(thing) and thing == tuple(colour) and not _plain_beams(held, colour)


def _way_back(came, jack):
    """The list of the jacks from jack to the one from which its part was coloured."""
    way = [jack]
    while came[way[-1]] is not None:
        way.append(came[way[-1]])
    return way


def odd_ring(frame):
    """An ODD RING of frame."""
    held = _framed(frame)
    colour, came = _painted(held)
    closing = _plain_beams(held, colour)
    if not closing:
        raise CanNot()
    low, high = closing[0]
    # Both ways back are equally long: ends of one colour were come to in as many steps.
    near, far = _way_back(came, low), _way_back(came, high)
    while near[-2] == far[-2]:
        near.pop()
        far.pop()
    return tuple(near + far[::-1][1:] + [low])


def is_odd_ring(frame, thing):
    """Whether thing is an ODD RING of frame."""
    beams = _framed(frame)[1]
    if not is_numbers(thing) or len(thing) < 2 or thing[0] != thing[-1]:
        return False
    steps = [(min(here, behind), max(here, behind)) for here, behind in zip(thing, thing[1:])]
    if len(steps) % 2 == 0 or not all([step in beams for step in steps]):
        return False
    return len(set(thing[1:])) == len(steps)


def _need_from(number, least):
    """Raise Unfit if number is no number from least on."""
    if not is_number(number) or number < least:
        raise Unfit()


def row_frame(n):
    """n jacks in a row."""
    _need_from(n, 2)
    return (n, tuple([(jack, jack + 1) for jack in range(n - 1)]))


def ring_frame(n):
    """n jacks in a ring."""
    _need_from(n, 3)
    beams = [(jack, jack + 1) for jack in range(n - 1)] + [(0, n - 1)]
    return (n, tuple(sorted(beams)))


def floor_frame(rows, columns):
    """Jacks in rows and columns, numbered row by row."""
    _need_from(rows, 1)
    _need_from(columns, 1)
    n = rows * columns
    _need_from(n, 2)
    across = [(jack, jack + 1) for jack in range(n) if (jack + 1) % columns != 0]
    down = [(jack, jack + columns) for jack in range(n - columns)]
    return (n, tuple(sorted(across + down)))


def renamed(frame, names):
    """The FRAME in which jack k is called names[k]."""
    n, beams = _framed(frame)
    called = plain(names)
    if not is_numbers(called) or sorted(called) != list(range(n)):
        raise Unfit()
    ends = [(called[low], called[high]) for low, high in beams]
    return (n, tuple(sorted([(min(near, far), max(near, far)) for near, far in ends])))


def put_apart(one, other):
    """one and, behind it, other as one FRAME, no beam between."""
    n, beams = _framed(one)
    more, behind = _framed(other)
    return (n + more, beams + tuple([(low + n, high + n) for low, high in behind]))
