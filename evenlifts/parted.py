"""Plans taken apart: cut off, raised jacks apart from lowered ones, never back."""

from evenlifts.deeds import is_plan
from evenlifts.errors import Unfit
from evenlifts.shapes import is_numbers, plain
from evenlifts.stands import is_stand


def _led(frame, one, other, plan):
    """The triple of one, other and plan as tuples; Unfit if plan does not lead from one to other."""
    held, near, far, deeds = plain((frame, one, other, plan))
    # No PLAN leads from or to what is no STAND.
    if not is_stand(held, near) or not is_stand(held, far) or not is_plan(held, near, far, deeds):
        raise Unfit()
    return (near, far, deeds)


def _clipped(near, far, deeds):
    """All of deeds, cut off."""
    return [
        (jack, min(max(height, min(near[jack], far[jack])), max(near[jack], far[jack])))
        for jack, height in deeds
    ]


def _cut(near, far, deeds):
    """What cut_off tells of deeds."""
    here = list(near)
    kept = []
    for jack, height in _clipped(near, far, deeds):
        if height != here[jack]:
            here[jack] = height
            kept.append((jack, height))
    return tuple(kept)


def _lots(near, far, deeds):
    """The pair of the DEEDS of cut_off that raised jacks have, and of those that lowered ones have."""
    kept = _cut(near, far, deeds)
    up = [deed for deed in kept if near[deed[0]] < far[deed[0]]]
    down = [deed for deed in kept if near[deed[0]] > far[deed[0]]]
    return (tuple(up), tuple(down))


def _forward(near, far, deeds):
    """The list of the numbers of the DEEDS that bring their jack closer than any ahead."""
    left = [abs(low - high) for low, high in zip(near, far)]
    kept = []
    for number, (jack, height) in enumerate(_clipped(near, far, deeds)):
        if abs(height - far[jack]) < left[jack]:
            left[jack] = abs(height - far[jack])
            kept.append(number)
    return kept


def _straightened(near, far, deeds):
    """What never_back tells of deeds."""
    clipped = _clipped(near, far, deeds)
    return tuple([clipped[number] for number in _forward(near, far, deeds)])


def cut_off(frame, one, other, plan):
    """plan with all its DEEDS cut off, without those that then move nothing."""
    near, far, deeds = _led(frame, one, other, plan)
    return _cut(near, far, deeds)


def is_cut(frame, one, other, plan):
    """Whether cut_off leaves plan as it is."""
    near, far, deeds = _led(frame, one, other, plan)
    return _cut(near, far, deeds) == deeds


def apart(frame, one, other, plan):
    """The pair of the DEEDS of cut_off of raised jacks, and of those of lowered ones."""
    near, far, deeds = _led(frame, one, other, plan)
    return _lots(near, far, deeds)


def is_apart(frame, one, other, plan):
    """Whether plan has all DEEDS of raised jacks, then all of lowered ones, as apart tells them."""
    near, far, deeds = _led(frame, one, other, plan)
    up, down = _lots(near, far, deeds)
    return up + down == deeds


def woven(frame, one, other, plan, marks):
    """The DEEDS of both tuples of apart, taken in the order of marks."""
    near, far, deeds = _led(frame, one, other, plan)
    up, down = _lots(near, far, deeds)
    turns = plain(marks)
    if not is_numbers(turns) or sorted(turns) != [0] * len(up) + [1] * len(down):
        raise Unfit()
    lots = [list(up[::-1]), list(down[::-1])]
    return tuple([lots[turn].pop() for turn in turns])


def kept_deeds(frame, one, other, plan):
    """The set of the numbers of the DEEDS of plan that bring their jack closer than any ahead."""
    near, far, deeds = _led(frame, one, other, plan)
    return tuple(_forward(near, far, deeds))


def never_back(frame, one, other, plan):
    """The DEEDS of kept_deeds, cut off, in order."""
    near, far, deeds = _led(frame, one, other, plan)
    return _straightened(near, far, deeds)


def is_forward(frame, one, other, plan):
    """Whether never_back leaves plan as it is."""
    near, far, deeds = _led(frame, one, other, plan)
    return _straightened(near, far, deeds) == deeds


def saved(frame, one, other, plan):
    """How many DEEDS plan, cut_off and never_back have."""
    near, far, deeds = _led(frame, one, other, plan)
    return (len(deeds), len(_cut(near, far, deeds)), len(_straightened(near, far, deeds)))
