"""Shapes of values that all other files ask for: numbers, pairs, sets, jacks.

A file of the program's own use, not of the interface.
"""

from evenlifts.errors import NoJack, TooMany

# Heights of two stands that differ by more, added up, have too many passable pairs.
MOST_APART = 480


def plain(value):
    """value with a tuple in the place of each list, at any depth."""
    if isinstance(value, (list, tuple)):
        return tuple([plain(part) for part in value])
    return value


def is_number(thing):
    """Whether thing is a number; True and False are none."""
    return isinstance(thing, int) and not isinstance(thing, bool)


def is_numbers(thing):
    """Whether thing is a tuple of numbers."""
    return isinstance(thing, tuple) and all([is_number(part) for part in thing])


def is_number_pair(thing):
    """Whether thing is a pair of numbers."""
    return is_numbers(thing) and len(thing) == 2


def is_pair_set(thing):
    """Whether thing is a set of pairs of numbers: an ascending tuple of them."""
    if not isinstance(thing, tuple) or not all([is_number_pair(part) for part in thing]):
        return False
    return all([here < behind for here, behind in zip(thing, thing[1:])])


def is_jack(frame, thing):
    """Whether thing is a jack of frame."""
    return is_number(thing) and 0 <= thing < frame[0]


def need_jack(frame, jack):
    """Raise NoJack if jack is none of frame."""
    if not is_jack(frame, jack):
        raise NoJack(jack)


def near_jacks(frame, jack):
    """The list, ascending, of the neighbours of jack."""
    # Beams ascend, so the other ends of those that have jack do, too.
    return [low + high - jack for low, high in frame[1] if jack in (low, high)]


def near_lists(frame):
    """For each jack the list, ascending, of its neighbours."""
    lists = [[] for _ in range(frame[0])]
    for low, high in frame[1]:
        lists[low].append(high)
        lists[high].append(low)
    return lists


def apart_by(one, other):
    """The sizes by which the heights of one and other differ, added up."""
    return sum([abs(low - high) for low, high in zip(one, other)])


def need_few(one, other):
    """Raise TooMany if one and other are too far apart to list what lies between."""
    if apart_by(one, other) > MOST_APART:
        raise TooMany()
