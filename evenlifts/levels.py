"""Level houses, raised by so many levels at all jacks; with any slack."""

from evenlifts.asked import need_greatest
from evenlifts.deeds import is_deed, moved_by
from evenlifts.errors import TooMany
from evenlifts.fewest import plan_of_fewest
from evenlifts.frames import colours, parts
from evenlifts.piles import passed_in, pile_of, settled_from
from evenlifts.shapes import MOST_APART, plain
from evenlifts.stands import level_stand, slack_of


def _piled(frame):
    """frame as tuples, and its pile; TooMany if no greatest PASSING is told for it."""
    held = plain(frame)
    need_greatest(held)
    return (held, pile_of(held, list(range(held[0]))))


def _many(frame, pile, high):
    """How many DEEDS raise a level house by high."""
    if high == 0:
        return 0
    return frame[0] * high - passed_in(pile, high - 1)


def level_fewest(frame, high):
    """How many DEEDS a shortest PLAN has that raises a level house by high."""
    held, pile = _piled(frame)
    return _many(held, pile, high)


def one_more(frame, high):
    """By how many more DEEDS it is raised by high and one level more."""
    held, pile = _piled(frame)
    return _many(held, pile, high + 1) - _many(held, pile, high)


def how_high(frame, many):
    """The greatest high that takes at most many DEEDS."""
    held, pile = _piled(frame)
    # A level more costs one DEED at least, so many levels are enough to look at.
    low, top = 0, many
    while low < top:
        middle = (low + top + 1) // 2
        if _many(held, pile, middle) <= many:
            low = middle
        else:
            top = middle - 1
    return low


def two_more(frame):
    """How many DEEDS two levels more cost, from settled_at on."""
    held, pile = _piled(frame)
    return 2 * held[0] - pile[0]


def settled_at(frame):
    """The least high, from 1 on, from which on two levels more always cost two_more."""
    return settled_from(_piled(frame)[1]) + 1


def _lesser_classes(frame):
    """The list of the jacks of the lesser classes of all parts; CanNot if frame is not two-coloured."""
    colour = colours(frame)
    found = []
    for part in parts(frame):
        even = [jack for jack in part if colour[jack] == 0]
        odd = [jack for jack in part if colour[jack] == 1]
        found = found + (even if len(even) <= len(odd) else odd)
    return sorted(found)


def _need_low(frame, high):
    """Raise TooMany if a PLAN that raises frame by high is not told."""
    if frame[0] * high > MOST_APART:
        raise TooMany()


def colour_plan(frame, high):
    """The PLAN by which lesser classes and all others go up in turns, two levels at a time."""
    held = plain(frame)
    less = _lesser_classes(held)
    _need_low(held, high)
    if high == 0:
        return ()
    others = [jack for jack in range(held[0]) if jack not in less]
    turns = [(min(step, high), less if step & 1 == 1 else others) for step in range(1, high + 2)]
    return tuple([(jack, height) for height, jacks in turns for jack in jacks])


def scaled(heights, slack):
    """heights divided by slack, each rounded up."""
    return tuple([-(-height // slack) for height in heights])


def stretched(plan, high, slack):
    """The DEEDS of plan with heights times slack, high where that is more."""
    return tuple([(jack, min(height * slack, high)) for jack, height in plan])


def slack_fewest(frame, high, slack):
    """The fewest DEEDS, each leaving a STAND of slack, that raise a level house by high."""
    return level_fewest(frame, scaled((high,), slack)[0])


def slack_plan(frame, high, slack):
    """A tuple of the fewest DEEDS, each leaving a STAND of slack, that raise a level house by high."""
    held = plain(frame)
    need_greatest(held)
    _need_low(held, high)
    goal = scaled(level_stand(held, high), slack)
    return stretched(plan_of_fewest(held, level_stand(held, 0), goal), high, slack)


def is_slack_plan(frame, high, slack, thing):
    """Whether thing is such a tuple, each DEED to another height than its jack has."""
    held = plain(frame)
    many = slack_fewest(held, high, slack)
    if not isinstance(thing, tuple) or len(thing) != many or not all([is_deed(held, deed) for deed in thing]):
        return False
    here = level_stand(held, 0)
    for jack, height in thing:
        if here[jack] == height:
            return False
        here = moved_by(here, (jack, height))
        if slack_of(held, here) > slack:
            return False
    return here == level_stand(held, high)
