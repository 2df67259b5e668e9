"""The fewest deeds of a plan from one stand to another."""

from evenlifts.asked import need_answer
from evenlifts.deeds import comes_to, deeds_here, is_plan, moved_by
from evenlifts.errors import CanNot, TooMany, Unfit
from evenlifts.heaviest import always_of, greatest_of, most_of
from evenlifts.pairs import beside_lists
from evenlifts.plans import can_walk, straight_plan
from evenlifts.shapes import apart_by, need_jack, plain
from evenlifts.stands import greater, is_stand, lesser

_MOST_STANDS = 2000


def fewest_deeds(frame, one, other):
    """How many DEEDS a shortest PLAN has, however far one and other are apart."""
    return apart_by(one, other) - most_of(beside_lists(frame, one, other))


def plan_of_fewest(frame, one, other):
    """A shortest PLAN, however far one and other are apart."""
    return straight_plan(frame, one, other, greatest_of(beside_lists(frame, one, other)))


def _answered(frame, one, other):
    """All three as tuples; TooMany if no greatest PASSING is told for them."""
    held, near, far = plain((frame, one, other))
    need_answer(held, near, far)
    return (held, near, far)


def fewest(frame, one, other):
    """How many DEEDS a shortest PLAN has."""
    held, near, far = _answered(frame, one, other)
    return fewest_deeds(held, near, far)


def fewest_up(frame, one, other):
    """How many DEEDS a shortest PLAN from one to the greater heights of one and other has."""
    held, near, far = _answered(frame, one, other)
    return fewest_deeds(held, near, greater(held, near, far))


def fewest_down(frame, one, other):
    """How many DEEDS a shortest PLAN from one to the lesser heights of one and other has."""
    held, near, far = _answered(frame, one, other)
    return fewest_deeds(held, near, lesser(held, near, far))


def shortest_plan(frame, one, other):
    """A shortest PLAN from one to other."""
    held, near, far = _answered(frame, one, other)
    return plan_of_fewest(held, near, far)


def is_shortest(frame, one, other, thing):
    """Whether thing is a shortest PLAN from one to other."""
    held, near, far = _answered(frame, one, other)
    return is_plan(held, near, far, thing) and len(thing) == fewest_deeds(held, near, far)


def spare_deeds(frame, one, plan):
    """How many DEEDS more plan has than a shortest PLAN to where it leads from one."""
    held, near, deeds = plain((frame, one, plan))
    if not can_walk(held, near, deeds):
        raise Unfit()
    if deeds == ():
        return 0
    return len(deeds) - fewest(held, near, comes_to(held, near, deeds))


def _first_deeds(frame, one, other):
    """The list, ascending, of the first DEEDS of shortest PLANS from one to other."""
    always = always_of(beside_lists(frame, one, other))
    # Shortest PLANS are straight, and what is left between behind a DEED is all but where it
    # stops and what it leaps. A level that can be leaped at once has none beside it but the
    # stop: so some greatest PASSING has it, and that one stops there.
    return [
        (jack, height) for jack, height in deeds_here(frame, one)
        if (one[jack] < height <= other[jack] or one[jack] > height >= other[jack]) and (jack, height) not in always
    ]


def can_begin(frame, one, other):
    """The list, ascending, of the DEEDS that are the first of some shortest PLAN."""
    held, near, far = _answered(frame, one, other)
    return _first_deeds(held, near, far)


def can_end(frame, one, other):
    """The list, ascending, of the DEEDS that are the last of some shortest PLAN."""
    held, near, far = _answered(frame, one, other)
    # Undone, a shortest PLAN is one back: its first DEED moves the jack that ended.
    movers = sorted(set([jack for jack, _ in _first_deeds(held, far, near)]))
    return [(jack, far[jack]) for jack in movers]


def within(frame, one, many):
    """The list, ascending, of the STANDS to which some PLAN of at most many DEEDS leads."""
    held, near = plain((frame, one))
    found = {near: True}
    edge = [near]
    for _ in range(many):
        behind = {}
        for stand in edge:
            for deed in deeds_here(held, stand):
                behind[moved_by(stand, deed)] = True
        edge = [stand for stand in behind if stand not in found]
        for stand in edge:
            found[stand] = True
        if len(found) > _MOST_STANDS:
            raise TooMany()
    return sorted(found)


def nearest_of(frame, one, goals):
    """The number of the first of goals to which a shortest PLAN has the fewest DEEDS."""
    held, near, ends = plain((frame, one, goals))
    told = [fewest(held, near, far) for far in ends]
    return told.index(min(told))


def raised_more(frame, one, other, jack):
    """By how much fewest grows if other has jack one level higher."""
    held, near, far = plain((frame, one, other))
    need_jack(held, jack)
    need_answer(held, near, far)
    higher = moved_by(far, (jack, far[jack] + 1))
    if not is_stand(held, higher):
        raise CanNot()
    return fewest_deeds(held, near, higher) - fewest_deeds(held, near, far)
