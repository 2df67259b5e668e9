"""Plans from one stand to another: straight ones, what they pass, wasted stops."""

from evenlifts.asked import framed
from evenlifts.deeds import first_bad, is_deed, is_plan, walked
from evenlifts.errors import CanNot, Unfit
from evenlifts.pairs import all_pairs, lies_between, pairs_beside
from evenlifts.parted import is_forward
from evenlifts.passings import passing_of
from evenlifts.shapes import apart_by, is_number_pair, near_lists, need_few, plain


def next_stop(jack, height, goal, gone):
    """The height of jack's next stop on its way from height to goal; gone are the pairs that are passed."""
    step = 1 if height < goal else -1
    if (jack, height + step) in gone:
        return height + step + step
    return height + step


def straight_plan(frame, one, other, passing):
    """A straight PLAN from one to other that passes the pairs of passing and no others."""
    near = near_lists(frame)
    gone = {pair: True for pair in passing}
    here = list(one)
    deeds = []
    waiting = [jack for jack in range(frame[0]) if one[jack] != other[jack]]
    # Some jack can always go on: no deed has to wait for another one round in a ring.
    while waiting:
        for jack in waiting:
            height = next_stop(jack, here[jack], other[jack], gone)
            if all([abs(here[far] - height) <= 1 for far in near[jack]]):
                here[jack] = height
                deeds.append((jack, height))
        waiting = [jack for jack in waiting if here[jack] != other[jack]]
    return tuple(deeds)


def leads_straight(frame, one, other, thing):
    """Whether thing is a straight PLAN that leads from one to other."""
    return is_plan(frame, one, other, thing) and is_forward(frame, one, other, thing)


def pairs_passed(one, other, plan):
    """The set of the PASSABLE pairs at which plan has no stop."""
    stops = {deed: True for deed in plan}
    return tuple([pair for pair in all_pairs(one, other) if pair not in stops])


def can_walk(frame, one, thing):
    """Whether thing is a PLAN that can be done from one on."""
    if not isinstance(thing, tuple) or not all([is_deed(frame, deed) for deed in thing]):
        return False
    return first_bad(frame, one, thing) is None


def plan_of(frame, one, other, passing):
    """A straight PLAN from one to other that passes the pairs of passing and no others."""
    held, near, far = framed(frame, one, other)
    told = passing_of(held, near, far, passing)
    need_few(near, far)
    return straight_plan(held, near, far, told)


def is_plan_of(frame, one, other, passing, thing):
    """Whether thing is a straight PLAN from one to other that passes just the pairs of passing."""
    held, near, far = framed(frame, one, other)
    told = passing_of(held, near, far, passing)
    need_few(near, far)
    return leads_straight(held, near, far, thing) and pairs_passed(near, far, thing) == told


def deeds_with(frame, one, other, passing):
    """How many DEEDS a straight PLAN has that passes just the pairs of passing."""
    held, near, far = framed(frame, one, other)
    told = passing_of(held, near, far, passing)
    need_few(near, far)
    return apart_by(near, far) - len(told)


def is_straight(frame, one, other, thing):
    """Whether thing is a straight PLAN that leads from one to other."""
    held, near, far = framed(frame, one, other)
    return leads_straight(held, near, far, thing)


def passed_by(frame, one, other, plan):
    """The set of the pairs that plan passes."""
    held, near, far = framed(frame, one, other)
    deeds = plain(plan)
    if not is_plan(held, near, far, deeds):
        raise Unfit()
    need_few(near, far)
    return pairs_passed(near, far, deeds)


def _straight_led(frame, one, other, plan, pair):
    """All five as tuples; Unfit if plan is not straight from one to other, or pair no pair of numbers."""
    held, near, far = framed(frame, one, other)
    deeds, told = plain((plan, pair))
    if not leads_straight(held, near, far, deeds) or not is_number_pair(told):
        raise Unfit()
    need_few(near, far)
    return (held, near, far, deeds, told)


def _gone_past(one, other, plan, pair):
    """The number of the DEED of a straight PLAN by which pair's jack goes past its level."""
    if not lies_between(one, other, pair) or pair in plan:
        raise CanNot()
    jack, level = pair
    behind = [number for number, deed in enumerate(plan) if deed[0] == jack and _is_beyond(one, deed, level)]
    return behind[0]


def _is_beyond(one, deed, level):
    """Whether deed brings its jack to the other side of level, seen from one."""
    jack, height = deed
    return (one[jack] < level) == (level < height)


def pass_moment(frame, one, other, plan, pair):
    """The number of the DEED by which pair's jack goes past its level."""
    _, near, far, deeds, told = _straight_led(frame, one, other, plan, pair)
    return _gone_past(near, far, deeds, told)


def stand_at_pass(frame, one, other, plan, pair):
    """The STAND at which the DEED is done by which pair's jack goes past its level."""
    held, near, far, deeds, told = _straight_led(frame, one, other, plan, pair)
    return walked(held, near, deeds)[_gone_past(near, far, deeds, told)]


def plan_with(frame, one, other, plan, pair):
    """A straight PLAN that passes what plan passes and pair, no others."""
    held, near, far, deeds, told = _straight_led(frame, one, other, plan, pair)
    passed = pairs_passed(near, far, deeds)
    if not lies_between(near, far, told) or told in passed:
        raise CanNot()
    if any([own in passed for own in pairs_beside(held, near, far, told)]):
        raise CanNot()
    return straight_plan(held, near, far, passed + (told,))


def plan_without(frame, one, other, plan, pair):
    """A straight PLAN that passes what plan passes but pair, no others."""
    held, near, far, deeds, told = _straight_led(frame, one, other, plan, pair)
    passed = pairs_passed(near, far, deeds)
    if told not in passed:
        raise CanNot()
    return straight_plan(held, near, far, [own for own in passed if own != told])


def _can_stay(near, height, behind):
    """Whether a jack with these neighbours can stay at height till its next one of the DEEDS behind."""
    mover = behind[0][0]
    for jack, level in behind[1:]:
        if jack == mover:
            return level != height
        if jack in near and abs(level - height) > 1:
            return False
    # Without a later DEED of its own it would end elsewhere.
    return False


def _wasted(frame, one, plan):
    """The list of the numbers of the DEEDS of plan each of which alone can be left out."""
    near = near_lists(frame)
    here = list(one)
    found = []
    for number, (jack, height) in enumerate(plan):
        if _can_stay(near[jack], here[jack], plan[number:]):
            found.append(number)
        here[jack] = height
    return found


def _walkable(frame, one, plan):
    """All three as tuples; Unfit if plan cannot be done from one on."""
    held, near, _ = framed(frame, one, one)
    deeds = plain(plan)
    if not can_walk(held, near, deeds):
        raise Unfit()
    return (held, near, deeds)


def wasted_stops(frame, one, plan):
    """The set of the numbers of the DEEDS of plan each of which alone can be left out."""
    held, near, deeds = _walkable(frame, one, plan)
    return tuple(_wasted(held, near, deeds))


def shortened(frame, one, plan):
    """The PLAN that is left of plan when its first wasted DEED is left out, till none is wasted."""
    held, near, deeds = _walkable(frame, one, plan)
    wasted = _wasted(held, near, deeds)
    while wasted:
        deeds = deeds[:wasted[0]] + deeds[wasted[0] + 1:]
        wasted = _wasted(held, near, deeds)
    return deeds
