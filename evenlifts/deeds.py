"""Deeds, one jack at a time, and plans of them."""

from evenlifts.errors import CanNot, NoStand
from evenlifts.shapes import is_jack, is_number_pair, near_jacks, need_jack, plain
from evenlifts.stands import as_stands


def is_deed(frame, thing):
    """Whether thing is a DEED of frame."""
    return is_number_pair(thing) and is_jack(frame, thing[0])


def _torn_by(frame, stand, deed):
    """The list, ascending, of the beams that would crack if deed were done."""
    jack, height = deed
    beams = [(low, high) for low, high in frame[1] if jack in (low, high)]
    return [(low, high) for low, high in beams if abs(stand[low + high - jack] - height) > 1]


def _fits(frame, stand, deed):
    """Whether deed can be done at stand."""
    return stand[deed[0]] != deed[1] and not _torn_by(frame, stand, deed)


def moved_by(stand, deed):
    """The heights of stand with that of deed in its place."""
    jack, height = deed
    return stand[:jack] + (height,) + stand[jack + 1:]


def _behind(frame, stand, deed):
    """The STAND that comes of deed, which has to be done."""
    if stand[deed[0]] == deed[1]:
        raise CanNot()
    torn = _torn_by(frame, stand, deed)
    if torn:
        raise NoStand(torn[0])
    return moved_by(stand, deed)


def can_do(frame, stand, deed):
    """Whether deed can be done at stand."""
    held, here = as_stands(frame, stand)
    return _fits(held, here, plain(deed))


def done(frame, stand, deed):
    """The STAND that comes of deed."""
    held, here = as_stands(frame, stand)
    return _behind(held, here, plain(deed))


def _room_at(frame, stand, jack):
    """The set of the heights that jack can have, all others staying."""
    around = [stand[far] for far in near_jacks(frame, jack)]
    return tuple(range(max(around) - 1, min(around) + 2))


def room(frame, stand, jack):
    """The set of the heights that jack can have, all others staying."""
    held, here = as_stands(frame, stand)
    need_jack(held, jack)
    return _room_at(held, here, jack)


def deeds_here(frame, stand):
    """The list, ascending, of the DEEDS that can be done at stand."""
    held, here = as_stands(frame, stand)
    return [
        (jack, height) for jack in range(len(here)) for height in _room_at(held, here, jack)
        if height != here[jack]
    ]


def walked(frame, stand, plan):
    """The list of the STANDS: stand, then what comes behind each DEED of plan."""
    held, here = as_stands(frame, stand)
    found = [here]
    for deed in plain(plan):
        found.append(_behind(held, found[-1], deed))
    return found


def comes_to(frame, stand, plan):
    """The STAND that comes of all of plan."""
    return walked(frame, stand, plan)[-1]


def _stopped_at(frame, stand, plan):
    """The pair of the number of the first DEED that cannot be done, or None, and what comes of those ahead."""
    here = stand
    for number, deed in enumerate(plan):
        if not _fits(frame, here, deed):
            return (number, here)
        here = moved_by(here, deed)
    return (None, here)


def first_bad(frame, stand, plan):
    """The number of the first DEED of plan that cannot be done, None if there is none."""
    held, here = as_stands(frame, stand)
    return _stopped_at(held, here, plain(plan))[0]


def is_plan(frame, one, other, thing):
    """Whether thing is a PLAN that leads from one to other."""
    held, near, far = as_stands(frame, one, other)
    if not isinstance(thing, tuple) or not all([is_deed(held, deed) for deed in thing]):
        return False
    return _stopped_at(held, near, thing) == (None, far)


def undoing(frame, stand, plan):
    """The PLAN that leads back to stand through the same STANDS."""
    passed = walked(frame, stand, plan)
    back = [(deed[0], passed[number][deed[0]]) for number, deed in enumerate(plan)]
    return tuple(back[::-1])


def gone_on(frame, stand, plan, more):
    """The PLAN of plan, then more, all of which has to be done."""
    whole = plain(plan) + plain(more)
    walked(frame, stand, whole)
    return whole


def stops_of(frame, plan, jack):
    """The tuple of the heights to which the DEEDS of plan bring jack, in order."""
    need_jack(frame, jack)
    return tuple([height for mover, height in plan if mover == jack])


def leaped(frame, stand, plan):
    """For each DEED of plan the pair (jack, level) that it leaps, None if it leaps none."""
    passed = walked(frame, stand, plan)
    steps = [(jack, passed[number][jack], height) for number, (jack, height) in enumerate(plan)]
    return tuple([
        (jack, (low + high) // 2) if abs(low - high) == 2 else None for jack, low, high in steps
    ])


def plan_shifted(plan, by):
    """The PLAN with each height greater by by."""
    return tuple([(jack, height + by) for jack, height in plan])


def plan_mirrored(plan):
    """The PLAN with each height h turned into - h."""
    return tuple([(jack, -height) for jack, height in plan])
