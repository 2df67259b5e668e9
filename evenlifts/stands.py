"""Stands: heights that crack no beam."""

from evenlifts.errors import NoStand, TooMany
from evenlifts.shapes import apart_by, is_numbers, near_lists, plain

_MOST_BETWEEN = 2000


def is_heights(frame, thing):
    """Whether thing are HEIGHTS of frame."""
    return is_numbers(thing) and len(thing) == frame[0]


def is_stand(frame, thing):
    """Whether thing is a STAND of frame."""
    return is_heights(frame, thing) and not cracks(frame, thing)


def cracks(frame, heights):
    """The set of the beams that crack."""
    return tuple([(low, high) for low, high in frame[1] if abs(heights[low] - heights[high]) > 1])


def slack_of(frame, heights):
    """The least slack, from 1 on, of which heights are a STAND."""
    return max([1] + [abs(heights[low] - heights[high]) for low, high in frame[1]])


def as_stands(frame, *stands):
    """frame and stands as tuples; NoStand for the first of stands that is none."""
    held = plain((frame,) + stands)
    for stand in held[1:]:
        torn = cracks(held[0], stand)
        if torn:
            raise NoStand(torn[0])
    return held


def lesser(frame, one, other):
    """The STAND of the lesser of both heights at each jack."""
    _, near, far = as_stands(frame, one, other)
    return tuple([min(low, high) for low, high in zip(near, far)])


def greater(frame, one, other):
    """The STAND of the greater of both heights at each jack."""
    _, near, far = as_stands(frame, one, other)
    return tuple([max(low, high) for low, high in zip(near, far)])


def distance(frame, one, other):
    """The sizes by which the heights differ, added up."""
    _, near, far = as_stands(frame, one, other)
    return apart_by(near, far)


def _higher(low, high):
    """The set of the jacks that are higher in high than in low."""
    return tuple([jack for jack in range(len(low)) if low[jack] < high[jack]])


def raised(frame, one, other):
    """The set of the jacks that are higher in other than in one."""
    _, near, far = as_stands(frame, one, other)
    return _higher(near, far)


def lowered(frame, one, other):
    """The set of the jacks that are less high in other than in one."""
    _, near, far = as_stands(frame, one, other)
    return _higher(far, near)


def is_between(frame, one, other, thing):
    """Whether thing is a STAND that is at no jack below both of one and other, or above both."""
    held, near, far = as_stands(frame, one, other)
    if not is_stand(held, thing):
        return False
    return all([min(low, high) <= height <= max(low, high) for low, high, height in zip(near, far, thing)])


def _gone_on(near, heads, low, high):
    """heads, each with every height from low to high of the next jack that cracks no beam."""
    jack = len(heads[0])
    behind = [far for far in near[jack] if far < jack]
    return [
        head + (height,) for head in heads for height in range(low, high + 1)
        if all([abs(head[far] - height) <= 1 for far in behind])
    ]


def all_between(frame, one, other):
    """The list, ascending, of all STANDS between one and other."""
    held, near, far = as_stands(frame, one, other)
    many = 1
    for low, high in zip(near, far):
        many = many * (abs(low - high) + 1)
    if many > _MOST_BETWEEN:
        raise TooMany()
    lists = near_lists(held)
    found = [()]
    for low, high in zip(near, far):
        found = _gone_on(lists, found, min(low, high), max(low, high))
    return found


def level_stand(frame, height):
    """The STAND of which each jack has this height."""
    return (height,) * frame[0]


def shifted(frame, stand, by):
    """The STAND with all heights greater by by."""
    _, heights = as_stands(frame, stand)
    return tuple([height + by for height in heights])


def mirrored(frame, stand):
    """The STAND with each height h turned into - h."""
    _, heights = as_stands(frame, stand)
    return tuple([-height for height in heights])
