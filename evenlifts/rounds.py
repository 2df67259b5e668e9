"""Rounds: deeds of jacks without a beam between, done at once by a crew."""

from evenlifts.deeds import can_do, is_deed, moved_by
from evenlifts.errors import CanNot, Unfit
from evenlifts.fewest import fewest_deeds
from evenlifts.frames import colours, is_two_coloured
from evenlifts.plans import can_walk
from evenlifts.shapes import is_pair_set, near_lists, need_few, plain

_ONE_BEAM = (2, ((0, 1),))


def _is_round_at(frame, stand, thing):
    """Whether thing is a ROUND at stand."""
    if not is_pair_set(thing) or thing == () or not all([is_deed(frame, deed) for deed in thing]):
        return False
    near = near_lists(frame)
    jacks = [jack for jack, _ in thing]
    if len(set(jacks)) != len(jacks) or any([far in jacks for jack in jacks for far in near[jack]]):
        return False
    return all([can_do(frame, stand, deed) for deed in thing])


def _behind(stand, deeds):
    """What comes of all of deeds, in whatever order."""
    here = stand
    for deed in deeds:
        here = moved_by(here, deed)
    return here


def _come_by(frame, stand, thing):
    """The STAND that comes of ROUNDS from stand on, None if thing are none."""
    if not isinstance(thing, tuple):
        return None
    here = stand
    for own in thing:
        if not _is_round_at(frame, here, own):
            return None
        here = _behind(here, own)
    return here


def is_round(frame, stand, thing):
    """Whether thing is a ROUND at stand."""
    held, here = plain((frame, stand))
    return _is_round_at(held, here, thing)


def is_rounds(frame, one, other, thing):
    """Whether thing are ROUNDS that lead from one to other."""
    held, near, far = plain((frame, one, other))
    return _come_by(held, near, thing) == far


def _in_rounds(frame, stand, rounds):
    """The pair of rounds as tuples, and of what comes of all; Unfit if they are no ROUNDS from stand on."""
    held, here, turns = plain((frame, stand, rounds))
    last = _come_by(held, here, turns)
    if last is None:
        raise Unfit()
    return (turns, last)


def behind_rounds(frame, stand, rounds):
    """The STAND that comes of all of rounds."""
    return _in_rounds(frame, stand, rounds)[1]


def plan_of_rounds(frame, stand, rounds):
    """The PLAN of the DEEDS of rounds, ROUND by ROUND."""
    turns = _in_rounds(frame, stand, rounds)[0]
    return tuple([deed for own in turns for deed in own])


def rounds_of(frame, stand, plan):
    """The ROUNDS into which the DEEDS of plan come, each as soon as it can."""
    held, here, deeds = plain((frame, stand, plan))
    if not can_walk(held, here, deeds):
        raise Unfit()
    near = near_lists(held)
    # For each jack how many ROUNDS there are up to the last one that has a DEED of it.
    busy = [0 for _ in near]
    turns = []
    for jack, height in deeds:
        place = max([busy[jack]] + [busy[far] for far in near[jack]])
        busy[jack] = place + 1
        if place == len(turns):
            turns.append([])
        turns[place].append((jack, height))
    return tuple([tuple(sorted(own)) for own in turns])


def many_level_rounds(frame, height):
    """How many ROUNDS lead at the fewest from all jacks at 0 to all at height."""
    if not is_two_coloured(frame):
        raise CanNot()
    return abs(height) + 1 if height != 0 else 0


def level_rounds(frame, height):
    """So few ROUNDS from all jacks at 0 to all at height: both colours in turns."""
    colour = colours(frame)
    many = abs(height)
    turns = []
    for step in range(1, many_level_rounds(frame, height) + 1):
        level = min(step, many) if height > 0 else -min(step, many)
        turns.append(tuple([(jack, level) for jack, own in enumerate(colour) if (step + own) & 1 == 1]))
    return tuple(turns)


def rounds_bound(frame, one, other):
    """The pair of the most DEEDS that two neighbours alone need at the fewest, and of the beams whose ends do."""
    held, near, far = plain((frame, one, other))
    need_few(near, far)
    many = [fewest_deeds(_ONE_BEAM, (near[low], near[high]), (far[low], far[high])) for low, high in held[1]]
    most = max(many)
    return (most, tuple([beam for beam, own in zip(held[1], many) if own == most]))


def crew(rounds):
    """How many DEEDS the ROUND with the most has."""
    return max([len(own) for own in rounds], default=0)
