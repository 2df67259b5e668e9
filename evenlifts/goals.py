"""Goals told in part: heights of some jacks, whether a stand fits them, and the nearest one that does."""

from evenlifts.deeds import comes_to
from evenlifts.errors import CanNot
from evenlifts.fewest import fewest, shortest_plan
from evenlifts.plans import can_walk
from evenlifts.shapes import is_jack, is_numbers, is_pair_set, near_lists, need_jack, plain


def is_goal(frame, thing):
    """Whether thing is a GOAL of frame."""
    if not is_pair_set(thing) or not all([is_jack(frame, jack) for jack, _ in thing]):
        return False
    return all([here[0] < behind[0] for here, behind in zip(thing, thing[1:])])


def _ways_from(near, start):
    """A dict with, for each jack of start's part, a WAY from start to it, as short as can be."""
    ways = {start: (start,)}
    queue = [start]
    at = 0
    while at < len(queue):
        here = queue[at]
        at += 1
        for far in near[here]:
            if far not in ways:
                ways[far] = ways[here] + (far,)
                queue.append(far)
    return ways


def _is_way(frame, thing):
    """Whether thing is a WAY."""
    if not is_numbers(thing) or thing == () or not all([is_jack(frame, jack) for jack in thing]):
        return False
    near = near_lists(frame)
    return len(set(thing)) == len(thing) and all([far in near[here] for here, far in zip(thing, thing[1:])])


def _goal_bars(frame, goal):
    """The list of all GOAL BARS that are as short as can be."""
    near = near_lists(frame)
    found = []
    for start, height in goal:
        ways = _ways_from(near, start)
        # As many jacks as the heights differ by have one beam too few.
        found = found + [ways[end] for end, level in goal if end in ways and abs(height - level) >= len(ways[end])]
    return found


def fits(stand, goal):
    """Whether stand has all heights of goal."""
    return all([stand[jack] == height for jack, height in goal])


def can_fit(frame, goal):
    """Whether some STAND fits goal."""
    held, told = plain((frame, goal))
    return not _goal_bars(held, told)


def goal_bar(frame, goal):
    """A GOAL BAR: why no STAND fits goal."""
    held, told = plain((frame, goal))
    found = _goal_bars(held, told)
    if not found:
        raise CanNot()
    return found[0]


def is_goal_bar(frame, goal, thing):
    """Whether thing is a GOAL BAR."""
    held, told = plain((frame, goal))
    wished = dict(told)
    if not _is_way(held, thing) or thing[0] not in wished or thing[-1] not in wished:
        return False
    return abs(wished[thing[0]] - wished[thing[-1]]) >= len(thing)


def _fitted(frame, one, goal):
    """All three as tuples; CanNot if no STAND fits goal."""
    held, near, told = plain((frame, one, goal))
    if _goal_bars(held, told):
        raise CanNot()
    return (held, near, told)


def _nearest(frame, one, goal):
    """The NEAREST of one and goal, which some STAND fits."""
    near = near_lists(frame)
    here = list(one)
    for start, height in goal:
        ways = _ways_from(near, start)
        for jack in ways:
            beams = len(ways[jack]) - 1
            # The heights that all of goal lets a jack have are side by side: so one after the other is enough.
            here[jack] = min(max(here[jack], height - beams), height + beams)
    return tuple(here)


def nearest_stand(frame, one, goal):
    """The NEAREST: the STAND that fits goal and is between one and each that does."""
    held, near, told = _fitted(frame, one, goal)
    return _nearest(held, near, told)


def must_move(frame, one, goal):
    """The set of the jacks that move in each PLAN from one to a STAND that fits goal."""
    held, near, told = _fitted(frame, one, goal)
    far = _nearest(held, near, told)
    return tuple([jack for jack in range(held[0]) if near[jack] != far[jack]])


def _told_by(one, far, jack, height, beams):
    """Whether height, so many beams away, is why jack goes from its height of one to that of far."""
    if one[jack] < far[jack]:
        return height - beams == far[jack]
    return one[jack] > far[jack] and height + beams == far[jack]


def why_moved(frame, one, goal, jack):
    """A REASON of jack: a WAY from a jack of goal that brings it as far as the NEAREST has it."""
    held = plain(frame)
    need_jack(held, jack)
    held, near, told = _fitted(held, one, goal)
    far = _nearest(held, near, told)
    lists = near_lists(held)
    for start, height in told:
        ways = _ways_from(lists, start)
        if jack in ways and _told_by(near, far, jack, height, len(ways[jack]) - 1):
            return ways[jack]
    raise CanNot()


def is_why_moved(frame, one, goal, jack, thing):
    """Whether thing is a REASON of jack."""
    held = plain(frame)
    need_jack(held, jack)
    held, near, told = _fitted(held, one, goal)
    wished = dict(told)
    if not _is_way(held, thing) or thing[0] not in wished or thing[-1] != jack:
        return False
    return _told_by(near, _nearest(held, near, told), jack, wished[thing[0]], len(thing) - 1)


def fewest_to(frame, one, goal):
    """How many DEEDS a PLAN from one to a STAND that fits goal has at the fewest."""
    held, near, told = _fitted(frame, one, goal)
    return fewest(held, near, _nearest(held, near, told))


def plan_to_goal(frame, one, goal):
    """A PLAN of the fewest DEEDS from one to a STAND that fits goal."""
    held, near, told = _fitted(frame, one, goal)
    return shortest_plan(held, near, _nearest(held, near, told))


def is_plan_to_goal(frame, one, goal, thing):
    """Whether thing is a PLAN of the fewest DEEDS from one to some STAND that fits goal."""
    held, near, told = _fitted(frame, one, goal)
    many = fewest(held, near, _nearest(held, near, told))
    if not can_walk(held, near, thing) or len(thing) != many:
        return False
    return fits(comes_to(held, near, thing), told)
